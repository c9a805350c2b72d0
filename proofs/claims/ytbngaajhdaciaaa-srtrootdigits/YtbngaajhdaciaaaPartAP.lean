/- Contracts and laws: TabB, TabC, TabD, TabE, SrtN, SrtD, SrtE, SrtF. -/
import Derived.Test.YtbngaajhdaciaaaPartAO
import Derived.Test.YtbngaajhdaciaaaPartAL
import Derived.Test.YtbngaajhdaciaaaPartAJ
import Derived.Test.YtbngaajhdaciaaaPartAN
import Derived.Test.YtbngaajhdaciaaaPartAC
import Derived.Test.YtbngaajhdaciaaaPartAK
/- Contracts: table.Bounds, chosen, Digit; law 14's awake. -/
set_option linter.unusedVariables false
set_option linter.unusedSimpArgs false
set_option maxRecDepth 8000
namespace Go.Proofs.Ytbngaajhdaciaaa
open Go.RowKit Plain

/-- Four ints lie in a block. -/
def LiesI (w : World) (b : Nat) (f : Nat → Int) : Prop := (∀ i, i < 4 → w.cell? ⟨b, i, none⟩ = some (.int .i64 (f i))) ∧ b < w.heap.size
theorem LiesI.under {w w' : World} {b : Nat} {f : Nat → Int} (h : LiesI w b f) {C : Nat} (hb : Below C w w') (hc : b < C) : LiesI w' b f :=
  ⟨fun i hi => (hb.cell (p := ⟨b, i, none⟩) hc).trans (h.1 i hi), Nat.lt_of_lt_of_le h.2 hb.size⟩
theorem LiesI.below {w w' : World} {b : Nat} {f : Nat → Int} (h : LiesI w b f) (hb : Below w.heap.size w w') : LiesI w' b f := h.under hb h.2
theorem belowT_allocs (w : World) (o : Obj) : Below w.heap.size w (w.alloc o) := (Below.refl _ _).alloc (Nat.le_refl _) o
theorem liesI_new (w : World) (f : Nat → Int) (e : TypeId) : LiesI (w.alloc (.cells #[.int .i64 (f 0), .int .i64 (f 1), .int .i64 (f 2), .int .i64 (f 3)] e)) w.heap.size f := by
  refine ⟨fun i hi => ?_, by simp⟩
  rcases (show i = 0 ∨ i = 1 ∨ i = 2 ∨ i = 3 by omega) with rfl | rfl | rfl | rfl <;> simp [go_sem]
theorem below_set4 {B : Nat} {a W : World} (h : Below B a W) (b : Nat) (hb : B ≤ b) (x0 x1 x2 x3 : Value) : Below B a ((((W.setCell ⟨b, 0, none⟩ x0).setCell ⟨b, 1, none⟩ x1).setCell ⟨b, 2, none⟩ x2).setCell ⟨b, 3, none⟩ x3) :=
  ((((h.setCell (p := ⟨b, 0, none⟩) (hb) _).setCell (p := ⟨b, 1, none⟩) (hb) _).setCell (p := ⟨b, 2, none⟩) (hb) _).setCell (p := ⟨b, 3, none⟩) (hb) _)
/-- What a call goes by that has four ints as its result: they lie at its first block. -/
structure R4St (w W : World) : Prop where
  l : LiesI W w.heap.size (fun _ => 0)
  f : ∀ i, W.frozen? ⟨w.heap.size, i, none⟩ = false
  bel : Below w.heap.size w W
theorem R4St.below {w W W' : World} (h : R4St w W) (hb : Below W.heap.size W W') : R4St w W' :=
  ⟨h.l.below hb, fun i => (hb.frozen (p := ⟨w.heap.size, i, none⟩) h.l.2).trans (h.f i), ⟨hb.os.trans h.bel.os, hb.tape.trans h.bel.tape, hb.output.trans h.bel.output, Nat.le_trans h.bel.size hb.size, fun k hk => (hb.block k (Nat.lt_of_lt_of_le hk h.bel.size)).trans (h.bel.block k hk)⟩⟩
theorem r4_start (w : World) (e : TypeId) : R4St w (w.alloc (.cells #[.int .i64 0, .int .i64 0, .int .i64 0, .int .i64 0] e)) := ⟨liesI_new w (fun _ => 0) e, fun i => by simp [go_sem], belowT_allocs _ _⟩

/-- The digit by bounds. -/
def chN (f : Nat → Int) (y : Int) : Int := if f 0 ≤ y then 2 else if f 1 ≤ y then 1 else if f 2 ≤ y then 0 else if f 3 ≤ y then -1 else -2
theorem chN_at {f : Nat → Int} {y : Int} {j : Nat} (hj : j < 4) (h : ∀ m, m < j → ¬ f m ≤ y) (hy : f j ≤ y) : chN f y = 2 - (j : Int) := by
  unfold chN
  rcases (show j = 0 ∨ j = 1 ∨ j = 2 ∨ j = 3 by omega) with rfl | rfl | rfl | rfl
  · rw [if_pos hy]; rfl
  · rw [if_neg (h 0 (by omega)), if_pos hy]; rfl
  · rw [if_neg (h 0 (by omega)), if_neg (h 1 (by omega)), if_pos hy]; rfl
  · rw [if_neg (h 0 (by omega)), if_neg (h 1 (by omega)), if_neg (h 2 (by omega)), if_pos hy]; rfl
theorem chN_none {f : Nat → Int} {y : Int} (h : ∀ m, m < 4 → ¬ f m ≤ y) : chN f y = -2 := by
  unfold chN
  rw [if_neg (h 0 (by omega)), if_neg (h 1 (by omega)), if_neg (h 2 (by omega)), if_neg (h 3 (by omega))]

theorem idx4_run (f : Nat → Int) (i : Nat) (hi : i < 4) (w : World) : (Instr.index 70 (.agg #[.int .i64 (f 0), .int .i64 (f 1), .int .i64 (f 2), .int .i64 (f 3)]) (.int .i64 (i : Nat))).run Try.prog w = .ok (.int .i64 (f i)) w := by
  match i, hi with
  | 0, _ => simp [Instr.index, go_sem, run_underlying Try.underlying70]
  | 1, _ => simp [Instr.index, go_sem, run_underlying Try.underlying70]
  | 2, _ => simp [Instr.index, go_sem, run_underlying Try.underlying70]
  | 3, _ => simp [Instr.index, go_sem, run_underlying Try.underlying70]

set_option maxHeartbeats 1000000 in
theorem chosen_any (f : Nat → Int) (y : Int) (w : World) : Calls Try.prog 81 #[.agg #[.int .i64 (f 0), .int .i64 (f 1), .int .i64 (f 2), .int .i64 (f 3)], .int .i64 y] w fun e w' => e = .returned (.int .i64 (chN f y)) ∧ Below w.heap.size w w' := by
  have HB := hide (belowT_allocs w (.cells #[.int .i64 (f 0), .int .i64 (f 1), .int .i64 (f 2), .int .i64 (f 3)] 70))
  go_enter Try.func81, Try.ntmps81
  go_wp2
  go_loopw [8] (fun i wr => ∃ j : Nat, j ≤ 4 ∧ i = .int .i64 j ∧ Hid (∀ m, m < j → ¬ f m ≤ y) ∧ Hid (Below w.heap.size w wr))
    (fun i _ => 4 - (intOf i).toNat)
  case atStart => exact ⟨0, by omega, rfl, fun m hm => absurd hm (by omega), HB⟩
  case round =>
    clear HB
    obtain ⟨j, hj, rfl, HA, HB⟩ := hrel
    by_cases hlt : j < 4
    · have hj4 : (j : Int) < 4 := by omega
      have hix := fun w => idx4_run f j hlt w
      have hw2 : IntKind.i64.wrap (2 - (j : Int)) = 2 - (j : Int) := by rw [IntKind.wrap_i64]; omega
      by_cases hy : f j ≤ y
      · have HR := hide (chN_at hlt HA.out hy)
        clear HA
        go_wp2
        go_ret
        exact ⟨ret_int HR.out.symm, HB.out⟩
      · have HN : Hid (∀ m, m < j + 1 → ¬ f m ≤ y) := fun m hm => by
          rcases Nat.lt_or_ge m j with h | h
          · exact HA.out m h
          · have : m = j := by omega
            rw [this]; exact hy
        clear HA
        go_wp2
        go_roundw
        case rel => exact ⟨j + 1, by omega, by go_num, HN, HB⟩
        case measure => simp [intOf]; omega
    · obtain rfl : j = 4 := by omega
      have HR := hide (chN_none HA.out)
      clear HA
      go_wp2
      go_ret
      exact ⟨ret_int HR.out.symm, HB.out⟩

end Go.Proofs.Ytbngaajhdaciaaa

/- Contracts: radicandref14.least, Bounds, Digit. -/
set_option linter.unusedVariables false
set_option linter.unusedSimpArgs false
set_option maxRecDepth 8000
namespace Go.Proofs.Ytbngaajhdaciaaa
open Go.RowKit Plain

set_option maxHeartbeats 1000000 in
theorem rdigit_any (f : Nat → Int) (y : Int) (w : World) : Calls Try.prog 38 #[.agg #[.int .i64 (f 0), .int .i64 (f 1), .int .i64 (f 2), .int .i64 (f 3)], .int .i64 y] w fun e w' => e = .returned (.int .i64 (chN f y)) ∧ Below w.heap.size w w' := by
  have HB : Hid (LiesI (w.alloc (.cells #[.int .i64 (f 0), .int .i64 (f 1), .int .i64 (f 2), .int .i64 (f 3)] 70)) w.heap.size f ∧ Below w.heap.size w (w.alloc (.cells #[.int .i64 (f 0), .int .i64 (f 1), .int .i64 (f 2), .int .i64 (f 3)] 70))) := ⟨liesI_new w f _, belowT_allocs w _⟩
  go_enter Try.func38, Try.ntmps38
  go_wp2
  go_loopw [5] (fun i wr => ∃ j : Nat, j ≤ 4 ∧ i = .int .i64 j ∧ Hid (∀ m, m < j → ¬ f m ≤ y) ∧ Hid (LiesI wr w.heap.size f ∧ Below w.heap.size w wr))
    (fun i _ => 4 - (intOf i).toNat)
  case atStart => exact ⟨0, by omega, rfl, fun m hm => absurd hm (by omega), HB⟩
  case round =>
    clear HB
    obtain ⟨j, hj, rfl, HA, HB⟩ := hrel
    by_cases hlt : j < 4
    · have hj4 : (j : Int) < 4 := by omega
      have hck := HB.out.1.1 j hlt
      have hw2 : IntKind.i64.wrap (2 - (j : Int)) = 2 - (j : Int) := by rw [IntKind.wrap_i64]; omega
      by_cases hy : f j ≤ y
      · have HR := hide (chN_at hlt HA.out hy)
        clear HA
        go_wp2
        go_ret
        exact ⟨ret_int HR.out.symm, HB.out.2⟩
      · have HN : Hid (∀ m, m < j + 1 → ¬ f m ≤ y) := fun m hm => by
          rcases Nat.lt_or_ge m j with h | h
          · exact HA.out m h
          · have : m = j := by omega
            rw [this]; exact hy
        clear HA
        go_wp2
        go_roundw
        case rel => exact ⟨j + 1, by omega, by go_num, HN, HB⟩
        case measure => simp [intOf]; omega
    · obtain rfl : j = 4 := by omega
      have HR := hide (chN_none HA.out)
      clear HA
      go_wp2
      go_ret
      exact ⟨ret_int HR.out.symm, HB.out.2⟩
end Go.Proofs.Ytbngaajhdaciaaa

/- Contracts: table.RootBounds, RootDigit; radicandref14.RootBounds. -/
set_option linter.unusedVariables false
set_option linter.unusedSimpArgs false
set_option maxRecDepth 8000
namespace Go.Proofs.Ytbngaajhdaciaaa
open Go.RowKit Plain

/-- What a root's step adds to the bounds of 2 and -1, and to those of 1 and 0. -/
def qN (c j : Nat) : Int := ((c / 4 ^ j : Nat) : Int)
/-- A root's bounds. -/
def rbN (j : Nat) (s : Int) : Nat → Int
  | 0 => 3 * s + qN 36 j
  | 1 => s + qN 4 j
  | 2 => -s + qN 4 j
  | _ => -3 * s + qN 36 j
theorem qN_far {c j : Nat} (hc : c ≤ 36) (hj : 3 ≤ j) : qN c j = 0 := by
  unfold qN
  have h : 4 ^ 3 ≤ 4 ^ j := Nat.pow_le_pow_right (by decide) hj
  rw [Nat.div_eq_of_lt (by have : (4 : Nat) ^ 3 = 64 := rfl; omega)]
  rfl
theorem rb_far (j : Nat) (s : Int) (hj : 3 ≤ j) : rbN j s = rbN 3 s := by
  funext k
  match k with
  | 0 => show 3 * s + qN 36 j = 3 * s + qN 36 3; rw [qN_far (by decide) hj]; rfl
  | 1 => show s + qN 4 j = s + qN 4 3; rw [qN_far (by decide) hj]; rfl
  | 2 => show -s + qN 4 j = -s + qN 4 3; rw [qN_far (by decide) hj]; rfl
  | k + 3 => show -3 * s + qN 36 j = -3 * s + qN 36 3; rw [qN_far (by decide) hj]; rfl

/-- What RootBounds goes by: its result, and the bounds found so far. -/
structure RbSt (p : Nat) (f : Nat → Int) (w W : World) : Prop where
  r : R4St w W
  l : LiesI W p f
  fr : ∀ i, W.frozen? ⟨p, i, none⟩ = false
  op : w.heap.size < p
theorem RbSt.set {p : Nat} {f : Nat → Int} {w W : World} (h : RbSt p f w W) (j : Nat) (hj : j < 4) (v : Int) : RbSt p (fun m => if m = j then v else f m) w (W.setCell ⟨p, j, none⟩ (.int .i64 v)) := by
  have hop := h.op
  have hb : Below p W (W.setCell ⟨p, j, none⟩ (.int .i64 v)) := (Below.refl p W).setCell (p := ⟨p, j, none⟩) (Nat.le_refl _) _
  refine ⟨⟨h.r.l.under hb hop, fun i => by simpa [go_sem] using h.r.f i, h.r.bel.setCell (p := ⟨p, j, none⟩) (show w.heap.size ≤ p by omega) _⟩, ⟨fun i hi => ?_, by simpa [go_sem] using h.l.2⟩, fun i => by simpa [go_sem] using h.fr i, hop⟩
  have hc := h.l.1 j hj
  have hci := h.l.1 i hi
  have hlt := h.l.2
  by_cases hij : i = j
  · subst hij
    simp [go_sem, hc]
  · simp [go_sem, hci, hij]

set_option maxHeartbeats 2000000 in
theorem rootB_0 (j : Int) (hj : j = 0) (s : Int) (h1 : 28 ≤ s) (h2 : s ≤ 64) (w : World) : Calls Try.prog 80 #[.int .i64 j, .int .i64 s] w fun e w' => e = .returned (.tuple #[.agg #[.int .i64 (rbN 0 s 0), .int .i64 (rbN 0 s 1), .int .i64 (rbN 0 s 2), .int .i64 (rbN 0 s 3)], .bool true]) ∧ Below w.heap.size w w' := by
  have HS := hide (r4_start w 70)
  have hn0 : ¬ j < 0 := by omega
  have hn1 : ¬ s < 28 := by omega
  have hn2 : ¬ 64 < s := by omega
  have hmn : min j 3 = 0 := by omega
  have HS1 := hide h1
  have HS2 := hide h2
  clear h1 h2 hj
  go_enter Try.func80, Try.ntmps80
  go_upto_region 4 with fail
  have hbw := belowT_allocs (w.alloc (.cells #[.int .i64 0, .int .i64 0, .int .i64 0, .int .i64 0] 70)) (.cells #[.int .i64 0, .int .i64 0, .int .i64 0, .int .i64 0] 70)
  refine wp_gen (fun W => RbSt (w.alloc (.cells #[.int .i64 0, .int .i64 0, .int .i64 0, .int .i64 0] 70)).heap.size (fun _ => 0) w W) ⟨HS.out.below hbw, liesI_new _ (fun _ => 0) _, fun i => by simp [go_sem], by simp⟩ ?_
  clear HS hbw
  simp only [World.size_alloc]
  generalize hpp : w.heap.size + 1 = p
  clear hpp
  rintro W4 h4
  have HB0 := hide h4
  clear h4
  go_wp2
  go_loopw [20] (fun i wr => ∃ (k : Nat) (f : Nat → Int), k ≤ 4 ∧ i = .int .i64 k ∧ Hid (∀ m, m < k → f m = rbN 0 s m) ∧ Hid (RbSt p f w wr))
    (fun i _ => 4 - (intOf i).toNat)
  case atStart => exact ⟨0, fun _ => 0, by omega, rfl, fun m hm => absurd hm (by omega), HB0⟩
  case round =>
    clear HB0
    obtain ⟨k, f, hk, rfl, HF, hst⟩ := hrel
    have hc := hst.out.l.1
    have hcl := hst.out.l.2
    have hcf := hst.out.fr
    have h1 := HS1.out
    have h2 := HS2.out
    rcases (show k = 0 ∨ k = 1 ∨ k = 2 ∨ k = 3 ∨ k = 4 by omega) with rfl | rfl | rfl | rfl | rfl
    · have HN : Hid (∀ m, m < 1 → (fun m => if m = 0 then 3 * s + 36 else f m) m = rbN 0 s m) := fun m hm => by
        show (if m = 0 then _ else f m) = _
        split
        · rename_i h
          rw [h]; simp [rbN, qN]
        · exact HF.out m (by omega)
      have hst2 := hide (hst.out.set 0 (by decide) (3 * s + 36))
      have hwa : IntKind.i64.wrap (3 * s + 36) = 3 * s + 36 := by rw [IntKind.wrap_i64]; omega
      have hwb : IntKind.i64.wrap (3 * s) = 3 * s := by rw [IntKind.wrap_i64]; omega
      clear HF hst h1 h2
      go_wp2
      exact ⟨⟨1, _, by omega, by rfl, HN, hst2⟩, by simp [intOf]⟩
    · have HN : Hid (∀ m, m < 2 → (fun m => if m = 1 then s + 4 else f m) m = rbN 0 s m) := fun m hm => by
        show (if m = 1 then _ else f m) = _
        split
        · rename_i h
          rw [h]; simp [rbN, qN]
        · exact HF.out m (by omega)
      have hst2 := hide (hst.out.set 1 (by decide) (s + 4))
      have hwa : IntKind.i64.wrap (s + 4) = s + 4 := by rw [IntKind.wrap_i64]; omega
      have hwb : IntKind.i64.wrap (s) = s := by rw [IntKind.wrap_i64]; omega
      clear HF hst h1 h2
      go_wp2
      exact ⟨⟨2, _, by omega, by rfl, HN, hst2⟩, by simp [intOf]⟩
    · have HN : Hid (∀ m, m < 3 → (fun m => if m = 2 then -s + 4 else f m) m = rbN 0 s m) := fun m hm => by
        show (if m = 2 then _ else f m) = _
        split
        · rename_i h
          rw [h]; simp [rbN, qN]
        · exact HF.out m (by omega)
      have hst2 := hide (hst.out.set 2 (by decide) (-s + 4))
      have hwa : IntKind.i64.wrap (-s + 4) = -s + 4 := by rw [IntKind.wrap_i64]; omega
      have hwb : IntKind.i64.wrap (-1 * s) = -1 * s := by rw [IntKind.wrap_i64]; omega
      clear HF hst h1 h2
      go_wp2
      exact ⟨⟨3, _, by omega, by rfl, HN, hst2⟩, by simp [intOf]⟩
    · have HN : Hid (∀ m, m < 4 → (fun m => if m = 3 then -3 * s + 36 else f m) m = rbN 0 s m) := fun m hm => by
        show (if m = 3 then _ else f m) = _
        split
        · rename_i h
          rw [h]; simp [rbN, qN]
        · exact HF.out m (by omega)
      have hst2 := hide (hst.out.set 3 (by decide) (-3 * s + 36))
      have hwa : IntKind.i64.wrap (-3 * s + 36) = -3 * s + 36 := by rw [IntKind.wrap_i64]; omega
      have hwb : IntKind.i64.wrap (-3 * s) = -3 * s := by rw [IntKind.wrap_i64]; omega
      clear HF hst h1 h2
      go_wp2
      exact ⟨⟨4, _, by omega, by rfl, HN, hst2⟩, by simp [intOf]⟩
    · have hx : ∀ i, i < 4 → wr.cell? ⟨p, i, none⟩ = some (.int .i64 (rbN 0 s i)) := fun i hi => by rw [hc i hi, HF.out i hi]
      have hr1 := hst.out.r.l.1
      have hrl1 := hst.out.r.l.2
      have hrf1 := hst.out.r.f
      have HBE := hide hst.out.r.bel
      clear HF hst hc h1 h2
      go_wp2
      exact bodyPost_ret (v := .tuple #[.agg #[.int .i64 (rbN 0 s 0), .int .i64 (rbN 0 s 1), .int .i64 (rbN 0 s 2), .int .i64 (rbN 0 s 3)], .bool true]) (by simp [results, Try.results80, go_sem, hr1, hrl1]) rfl ⟨rfl, below_set4 HBE.out _ (by omega) _ _ _ _⟩

set_option maxHeartbeats 2000000 in
theorem rootB_1 (j : Int) (hj : j = 1) (s : Int) (h1 : 28 ≤ s) (h2 : s ≤ 64) (w : World) : Calls Try.prog 80 #[.int .i64 j, .int .i64 s] w fun e w' => e = .returned (.tuple #[.agg #[.int .i64 (rbN 1 s 0), .int .i64 (rbN 1 s 1), .int .i64 (rbN 1 s 2), .int .i64 (rbN 1 s 3)], .bool true]) ∧ Below w.heap.size w w' := by
  have HS := hide (r4_start w 70)
  have hn0 : ¬ j < 0 := by omega
  have hn1 : ¬ s < 28 := by omega
  have hn2 : ¬ 64 < s := by omega
  have hmn : min j 3 = 1 := by omega
  have HS1 := hide h1
  have HS2 := hide h2
  clear h1 h2 hj
  go_enter Try.func80, Try.ntmps80
  go_upto_region 4 with fail
  have hbw := belowT_allocs (w.alloc (.cells #[.int .i64 0, .int .i64 0, .int .i64 0, .int .i64 0] 70)) (.cells #[.int .i64 0, .int .i64 0, .int .i64 0, .int .i64 0] 70)
  refine wp_gen (fun W => RbSt (w.alloc (.cells #[.int .i64 0, .int .i64 0, .int .i64 0, .int .i64 0] 70)).heap.size (fun _ => 0) w W) ⟨HS.out.below hbw, liesI_new _ (fun _ => 0) _, fun i => by simp [go_sem], by simp⟩ ?_
  clear HS hbw
  simp only [World.size_alloc]
  generalize hpp : w.heap.size + 1 = p
  clear hpp
  rintro W4 h4
  have HB0 := hide h4
  clear h4
  go_wp2
  go_loopw [20] (fun i wr => ∃ (k : Nat) (f : Nat → Int), k ≤ 4 ∧ i = .int .i64 k ∧ Hid (∀ m, m < k → f m = rbN 1 s m) ∧ Hid (RbSt p f w wr))
    (fun i _ => 4 - (intOf i).toNat)
  case atStart => exact ⟨0, fun _ => 0, by omega, rfl, fun m hm => absurd hm (by omega), HB0⟩
  case round =>
    clear HB0
    obtain ⟨k, f, hk, rfl, HF, hst⟩ := hrel
    have hc := hst.out.l.1
    have hcl := hst.out.l.2
    have hcf := hst.out.fr
    have h1 := HS1.out
    have h2 := HS2.out
    rcases (show k = 0 ∨ k = 1 ∨ k = 2 ∨ k = 3 ∨ k = 4 by omega) with rfl | rfl | rfl | rfl | rfl
    · have HN : Hid (∀ m, m < 1 → (fun m => if m = 0 then 3 * s + 9 else f m) m = rbN 1 s m) := fun m hm => by
        show (if m = 0 then _ else f m) = _
        split
        · rename_i h
          rw [h]; simp [rbN, qN]
        · exact HF.out m (by omega)
      have hst2 := hide (hst.out.set 0 (by decide) (3 * s + 9))
      have hwa : IntKind.i64.wrap (3 * s + 9) = 3 * s + 9 := by rw [IntKind.wrap_i64]; omega
      have hwb : IntKind.i64.wrap (3 * s) = 3 * s := by rw [IntKind.wrap_i64]; omega
      clear HF hst h1 h2
      go_wp2
      exact ⟨⟨1, _, by omega, by rfl, HN, hst2⟩, by simp [intOf]⟩
    · have HN : Hid (∀ m, m < 2 → (fun m => if m = 1 then s + 1 else f m) m = rbN 1 s m) := fun m hm => by
        show (if m = 1 then _ else f m) = _
        split
        · rename_i h
          rw [h]; simp [rbN, qN]
        · exact HF.out m (by omega)
      have hst2 := hide (hst.out.set 1 (by decide) (s + 1))
      have hwa : IntKind.i64.wrap (s + 1) = s + 1 := by rw [IntKind.wrap_i64]; omega
      have hwb : IntKind.i64.wrap (s) = s := by rw [IntKind.wrap_i64]; omega
      clear HF hst h1 h2
      go_wp2
      exact ⟨⟨2, _, by omega, by rfl, HN, hst2⟩, by simp [intOf]⟩
    · have HN : Hid (∀ m, m < 3 → (fun m => if m = 2 then -s + 1 else f m) m = rbN 1 s m) := fun m hm => by
        show (if m = 2 then _ else f m) = _
        split
        · rename_i h
          rw [h]; simp [rbN, qN]
        · exact HF.out m (by omega)
      have hst2 := hide (hst.out.set 2 (by decide) (-s + 1))
      have hwa : IntKind.i64.wrap (-s + 1) = -s + 1 := by rw [IntKind.wrap_i64]; omega
      have hwb : IntKind.i64.wrap (-1 * s) = -1 * s := by rw [IntKind.wrap_i64]; omega
      clear HF hst h1 h2
      go_wp2
      exact ⟨⟨3, _, by omega, by rfl, HN, hst2⟩, by simp [intOf]⟩
    · have HN : Hid (∀ m, m < 4 → (fun m => if m = 3 then -3 * s + 9 else f m) m = rbN 1 s m) := fun m hm => by
        show (if m = 3 then _ else f m) = _
        split
        · rename_i h
          rw [h]; simp [rbN, qN]
        · exact HF.out m (by omega)
      have hst2 := hide (hst.out.set 3 (by decide) (-3 * s + 9))
      have hwa : IntKind.i64.wrap (-3 * s + 9) = -3 * s + 9 := by rw [IntKind.wrap_i64]; omega
      have hwb : IntKind.i64.wrap (-3 * s) = -3 * s := by rw [IntKind.wrap_i64]; omega
      clear HF hst h1 h2
      go_wp2
      exact ⟨⟨4, _, by omega, by rfl, HN, hst2⟩, by simp [intOf]⟩
    · have hx : ∀ i, i < 4 → wr.cell? ⟨p, i, none⟩ = some (.int .i64 (rbN 1 s i)) := fun i hi => by rw [hc i hi, HF.out i hi]
      have hr1 := hst.out.r.l.1
      have hrl1 := hst.out.r.l.2
      have hrf1 := hst.out.r.f
      have HBE := hide hst.out.r.bel
      clear HF hst hc h1 h2
      go_wp2
      exact bodyPost_ret (v := .tuple #[.agg #[.int .i64 (rbN 1 s 0), .int .i64 (rbN 1 s 1), .int .i64 (rbN 1 s 2), .int .i64 (rbN 1 s 3)], .bool true]) (by simp [results, Try.results80, go_sem, hr1, hrl1]) rfl ⟨rfl, below_set4 HBE.out _ (by omega) _ _ _ _⟩

set_option maxHeartbeats 2000000 in
theorem rootB_2 (j : Int) (hj : j = 2) (s : Int) (h1 : 28 ≤ s) (h2 : s ≤ 64) (w : World) : Calls Try.prog 80 #[.int .i64 j, .int .i64 s] w fun e w' => e = .returned (.tuple #[.agg #[.int .i64 (rbN 2 s 0), .int .i64 (rbN 2 s 1), .int .i64 (rbN 2 s 2), .int .i64 (rbN 2 s 3)], .bool true]) ∧ Below w.heap.size w w' := by
  have HS := hide (r4_start w 70)
  have hn0 : ¬ j < 0 := by omega
  have hn1 : ¬ s < 28 := by omega
  have hn2 : ¬ 64 < s := by omega
  have hmn : min j 3 = 2 := by omega
  have HS1 := hide h1
  have HS2 := hide h2
  clear h1 h2 hj
  go_enter Try.func80, Try.ntmps80
  go_upto_region 4 with fail
  have hbw := belowT_allocs (w.alloc (.cells #[.int .i64 0, .int .i64 0, .int .i64 0, .int .i64 0] 70)) (.cells #[.int .i64 0, .int .i64 0, .int .i64 0, .int .i64 0] 70)
  refine wp_gen (fun W => RbSt (w.alloc (.cells #[.int .i64 0, .int .i64 0, .int .i64 0, .int .i64 0] 70)).heap.size (fun _ => 0) w W) ⟨HS.out.below hbw, liesI_new _ (fun _ => 0) _, fun i => by simp [go_sem], by simp⟩ ?_
  clear HS hbw
  simp only [World.size_alloc]
  generalize hpp : w.heap.size + 1 = p
  clear hpp
  rintro W4 h4
  have HB0 := hide h4
  clear h4
  go_wp2
  go_loopw [20] (fun i wr => ∃ (k : Nat) (f : Nat → Int), k ≤ 4 ∧ i = .int .i64 k ∧ Hid (∀ m, m < k → f m = rbN 2 s m) ∧ Hid (RbSt p f w wr))
    (fun i _ => 4 - (intOf i).toNat)
  case atStart => exact ⟨0, fun _ => 0, by omega, rfl, fun m hm => absurd hm (by omega), HB0⟩
  case round =>
    clear HB0
    obtain ⟨k, f, hk, rfl, HF, hst⟩ := hrel
    have hc := hst.out.l.1
    have hcl := hst.out.l.2
    have hcf := hst.out.fr
    have h1 := HS1.out
    have h2 := HS2.out
    rcases (show k = 0 ∨ k = 1 ∨ k = 2 ∨ k = 3 ∨ k = 4 by omega) with rfl | rfl | rfl | rfl | rfl
    · have HN : Hid (∀ m, m < 1 → (fun m => if m = 0 then 3 * s + 2 else f m) m = rbN 2 s m) := fun m hm => by
        show (if m = 0 then _ else f m) = _
        split
        · rename_i h
          rw [h]; simp [rbN, qN]
        · exact HF.out m (by omega)
      have hst2 := hide (hst.out.set 0 (by decide) (3 * s + 2))
      have hwa : IntKind.i64.wrap (3 * s + 2) = 3 * s + 2 := by rw [IntKind.wrap_i64]; omega
      have hwb : IntKind.i64.wrap (3 * s) = 3 * s := by rw [IntKind.wrap_i64]; omega
      clear HF hst h1 h2
      go_wp2
      exact ⟨⟨1, _, by omega, by rfl, HN, hst2⟩, by simp [intOf]⟩
    · have HN : Hid (∀ m, m < 2 → (fun m => if m = 1 then s else f m) m = rbN 2 s m) := fun m hm => by
        show (if m = 1 then _ else f m) = _
        split
        · rename_i h
          rw [h]; simp [rbN, qN]
        · exact HF.out m (by omega)
      have hst2 := hide (hst.out.set 1 (by decide) (s))
      have hwa : IntKind.i64.wrap (s) = s := by rw [IntKind.wrap_i64]; omega
      have hwb : IntKind.i64.wrap (s) = s := by rw [IntKind.wrap_i64]; omega
      clear HF hst h1 h2
      go_wp2
      exact ⟨⟨2, _, by omega, by rfl, HN, hst2⟩, by simp [intOf]⟩
    · have HN : Hid (∀ m, m < 3 → (fun m => if m = 2 then -s else f m) m = rbN 2 s m) := fun m hm => by
        show (if m = 2 then _ else f m) = _
        split
        · rename_i h
          rw [h]; simp [rbN, qN]
        · exact HF.out m (by omega)
      have hst2 := hide (hst.out.set 2 (by decide) (-s))
      have hwa : IntKind.i64.wrap (-s) = -s := by rw [IntKind.wrap_i64]; omega
      have hwb : IntKind.i64.wrap (-1 * s) = -1 * s := by rw [IntKind.wrap_i64]; omega
      clear HF hst h1 h2
      go_wp2
      exact ⟨⟨3, _, by omega, by rfl, HN, hst2⟩, by simp [intOf]⟩
    · have HN : Hid (∀ m, m < 4 → (fun m => if m = 3 then -3 * s + 2 else f m) m = rbN 2 s m) := fun m hm => by
        show (if m = 3 then _ else f m) = _
        split
        · rename_i h
          rw [h]; simp [rbN, qN]
        · exact HF.out m (by omega)
      have hst2 := hide (hst.out.set 3 (by decide) (-3 * s + 2))
      have hwa : IntKind.i64.wrap (-3 * s + 2) = -3 * s + 2 := by rw [IntKind.wrap_i64]; omega
      have hwb : IntKind.i64.wrap (-3 * s) = -3 * s := by rw [IntKind.wrap_i64]; omega
      clear HF hst h1 h2
      go_wp2
      exact ⟨⟨4, _, by omega, by rfl, HN, hst2⟩, by simp [intOf]⟩
    · have hx : ∀ i, i < 4 → wr.cell? ⟨p, i, none⟩ = some (.int .i64 (rbN 2 s i)) := fun i hi => by rw [hc i hi, HF.out i hi]
      have hr1 := hst.out.r.l.1
      have hrl1 := hst.out.r.l.2
      have hrf1 := hst.out.r.f
      have HBE := hide hst.out.r.bel
      clear HF hst hc h1 h2
      go_wp2
      exact bodyPost_ret (v := .tuple #[.agg #[.int .i64 (rbN 2 s 0), .int .i64 (rbN 2 s 1), .int .i64 (rbN 2 s 2), .int .i64 (rbN 2 s 3)], .bool true]) (by simp [results, Try.results80, go_sem, hr1, hrl1]) rfl ⟨rfl, below_set4 HBE.out _ (by omega) _ _ _ _⟩

set_option maxHeartbeats 2000000 in
theorem rootB_3 (j : Int) (hj : 3 ≤ j) (s : Int) (h1 : 28 ≤ s) (h2 : s ≤ 64) (w : World) : Calls Try.prog 80 #[.int .i64 j, .int .i64 s] w fun e w' => e = .returned (.tuple #[.agg #[.int .i64 (rbN 3 s 0), .int .i64 (rbN 3 s 1), .int .i64 (rbN 3 s 2), .int .i64 (rbN 3 s 3)], .bool true]) ∧ Below w.heap.size w w' := by
  have HS := hide (r4_start w 70)
  have hn0 : ¬ j < 0 := by omega
  have hn1 : ¬ s < 28 := by omega
  have hn2 : ¬ 64 < s := by omega
  have hmn : min j 3 = 3 := by omega
  have HS1 := hide h1
  have HS2 := hide h2
  clear h1 h2 hj
  go_enter Try.func80, Try.ntmps80
  go_upto_region 4 with fail
  have hbw := belowT_allocs (w.alloc (.cells #[.int .i64 0, .int .i64 0, .int .i64 0, .int .i64 0] 70)) (.cells #[.int .i64 0, .int .i64 0, .int .i64 0, .int .i64 0] 70)
  refine wp_gen (fun W => RbSt (w.alloc (.cells #[.int .i64 0, .int .i64 0, .int .i64 0, .int .i64 0] 70)).heap.size (fun _ => 0) w W) ⟨HS.out.below hbw, liesI_new _ (fun _ => 0) _, fun i => by simp [go_sem], by simp⟩ ?_
  clear HS hbw
  simp only [World.size_alloc]
  generalize hpp : w.heap.size + 1 = p
  clear hpp
  rintro W4 h4
  have HB0 := hide h4
  clear h4
  go_wp2
  go_loopw [20] (fun i wr => ∃ (k : Nat) (f : Nat → Int), k ≤ 4 ∧ i = .int .i64 k ∧ Hid (∀ m, m < k → f m = rbN 3 s m) ∧ Hid (RbSt p f w wr))
    (fun i _ => 4 - (intOf i).toNat)
  case atStart => exact ⟨0, fun _ => 0, by omega, rfl, fun m hm => absurd hm (by omega), HB0⟩
  case round =>
    clear HB0
    obtain ⟨k, f, hk, rfl, HF, hst⟩ := hrel
    have hc := hst.out.l.1
    have hcl := hst.out.l.2
    have hcf := hst.out.fr
    have h1 := HS1.out
    have h2 := HS2.out
    rcases (show k = 0 ∨ k = 1 ∨ k = 2 ∨ k = 3 ∨ k = 4 by omega) with rfl | rfl | rfl | rfl | rfl
    · have HN : Hid (∀ m, m < 1 → (fun m => if m = 0 then 3 * s else f m) m = rbN 3 s m) := fun m hm => by
        show (if m = 0 then _ else f m) = _
        split
        · rename_i h
          rw [h]; simp [rbN, qN]
        · exact HF.out m (by omega)
      have hst2 := hide (hst.out.set 0 (by decide) (3 * s))
      have hwa : IntKind.i64.wrap (3 * s) = 3 * s := by rw [IntKind.wrap_i64]; omega
      have hwb : IntKind.i64.wrap (3 * s) = 3 * s := by rw [IntKind.wrap_i64]; omega
      clear HF hst h1 h2
      go_wp2
      exact ⟨⟨1, _, by omega, by rfl, HN, hst2⟩, by simp [intOf]⟩
    · have HN : Hid (∀ m, m < 2 → (fun m => if m = 1 then s else f m) m = rbN 3 s m) := fun m hm => by
        show (if m = 1 then _ else f m) = _
        split
        · rename_i h
          rw [h]; simp [rbN, qN]
        · exact HF.out m (by omega)
      have hst2 := hide (hst.out.set 1 (by decide) (s))
      have hwa : IntKind.i64.wrap (s) = s := by rw [IntKind.wrap_i64]; omega
      have hwb : IntKind.i64.wrap (s) = s := by rw [IntKind.wrap_i64]; omega
      clear HF hst h1 h2
      go_wp2
      exact ⟨⟨2, _, by omega, by rfl, HN, hst2⟩, by simp [intOf]⟩
    · have HN : Hid (∀ m, m < 3 → (fun m => if m = 2 then -s else f m) m = rbN 3 s m) := fun m hm => by
        show (if m = 2 then _ else f m) = _
        split
        · rename_i h
          rw [h]; simp [rbN, qN]
        · exact HF.out m (by omega)
      have hst2 := hide (hst.out.set 2 (by decide) (-s))
      have hwa : IntKind.i64.wrap (-s) = -s := by rw [IntKind.wrap_i64]; omega
      have hwb : IntKind.i64.wrap (-1 * s) = -1 * s := by rw [IntKind.wrap_i64]; omega
      clear HF hst h1 h2
      go_wp2
      exact ⟨⟨3, _, by omega, by rfl, HN, hst2⟩, by simp [intOf]⟩
    · have HN : Hid (∀ m, m < 4 → (fun m => if m = 3 then -3 * s else f m) m = rbN 3 s m) := fun m hm => by
        show (if m = 3 then _ else f m) = _
        split
        · rename_i h
          rw [h]; simp [rbN, qN]
        · exact HF.out m (by omega)
      have hst2 := hide (hst.out.set 3 (by decide) (-3 * s))
      have hwa : IntKind.i64.wrap (-3 * s) = -3 * s := by rw [IntKind.wrap_i64]; omega
      have hwb : IntKind.i64.wrap (-3 * s) = -3 * s := by rw [IntKind.wrap_i64]; omega
      clear HF hst h1 h2
      go_wp2
      exact ⟨⟨4, _, by omega, by rfl, HN, hst2⟩, by simp [intOf]⟩
    · have hx : ∀ i, i < 4 → wr.cell? ⟨p, i, none⟩ = some (.int .i64 (rbN 3 s i)) := fun i hi => by rw [hc i hi, HF.out i hi]
      have hr1 := hst.out.r.l.1
      have hrl1 := hst.out.r.l.2
      have hrf1 := hst.out.r.f
      have HBE := hide hst.out.r.bel
      clear HF hst hc h1 h2
      go_wp2
      exact bodyPost_ret (v := .tuple #[.agg #[.int .i64 (rbN 3 s 0), .int .i64 (rbN 3 s 1), .int .i64 (rbN 3 s 2), .int .i64 (rbN 3 s 3)], .bool true]) (by simp [results, Try.results80, go_sem, hr1, hrl1]) rfl ⟨rfl, below_set4 HBE.out _ (by omega) _ _ _ _⟩
end Go.Proofs.Ytbngaajhdaciaaa

/- Contracts: table.RootBounds, RootDigit for any step; radicandref14.RootBounds. -/
set_option linter.unusedVariables false
set_option linter.unusedSimpArgs false
set_option maxRecDepth 8000
namespace Go.Proofs.Ytbngaajhdaciaaa
open Go.RowKit Plain

theorem rootB_yes (j : Nat) (s : Int) (h1 : 28 ≤ s) (h2 : s ≤ 64) (w : World) : Calls Try.prog 80 #[.int .i64 (j : Nat), .int .i64 s] w fun e w' => e = .returned (.tuple #[.agg #[.int .i64 (rbN j s 0), .int .i64 (rbN j s 1), .int .i64 (rbN j s 2), .int .i64 (rbN j s 3)], .bool true]) ∧ Below w.heap.size w w' := by
  rcases (show j = 0 ∨ j = 1 ∨ j = 2 ∨ 3 ≤ j by omega) with rfl | rfl | rfl | h
  · exact rootB_0 _ rfl s h1 h2 w
  · exact rootB_1 _ rfl s h1 h2 w
  · exact rootB_2 _ rfl s h1 h2 w
  · rw [rb_far j s h]
    exact rootB_3 _ (by omega) s h1 h2 w

theorem rootD_walkY (j s y : Int) (f : Nat → Int) (HBD : Hid (∀ w, Calls Try.prog 80 #[.int .i64 j, .int .i64 s] w fun e w' => e = .returned (.tuple #[.agg #[.int .i64 (f 0), .int .i64 (f 1), .int .i64 (f 2), .int .i64 (f 3)], .bool true]) ∧ Below w.heap.size w w')) (w : World) :
    Calls Try.prog 64 #[.int .i64 j, .int .i64 s, .int .i64 y] w fun e w' => e = .returned (.tuple #[.int .i64 (chN f y), .bool true]) ∧ Below w.heap.size w w' := by
  have HCH := hide (fun w => chosen_any f y w)
  go_enter Try.func64, Try.ntmps64
  go_wp2_with fail
  refine (HBD.out _).mono ?_
  rintro e w1 ⟨rfl, hb1⟩
  go_upto_region 2 with fail
  refine wp_gen (fun W => LiesI W w1.heap.size f ∧ Below w.heap.size w W) ⟨liesI_new w1 f _, hb1.alloc hb1.size _⟩ ?_
  clear hb1 HBD
  generalize w1.heap.size = p6 at *
  rintro W2 h2
  have HL := hide h2
  have hl := h2.1.1
  clear h2
  go_wp2_with fail
  refine (HCH.out _).mono ?_
  rintro e w3 ⟨rfl, hb3⟩
  have HB := hide (show Below w.heap.size w w3 from HL.out.2.trans (hb3.mono HL.out.2.size))
  clear hb3 HL hl
  go_wp2
  exact bodyPost_ret (v := .tuple #[.int .i64 (chN f y), .bool true]) (by simp [results, Try.results64, go_sem]) rfl ⟨rfl, HB.out⟩
theorem rootD_yes (j : Nat) (s y : Int) (h1 : 28 ≤ s) (h2 : s ≤ 64) (w : World) : Calls Try.prog 64 #[.int .i64 (j : Nat), .int .i64 s, .int .i64 y] w fun e w' => e = .returned (.tuple #[.int .i64 (chN (rbN j s) y), .bool true]) ∧ Below w.heap.size w w' :=
  rootD_walkY j s y (rbN j s) (fun w => rootB_yes j s h1 h2 w) w

set_option maxHeartbeats 4000000 in
theorem rrootB_any (j : Nat) (s : Int) (hj : j ≤ 9223372036854775807) (h1 : 28 ≤ s) (h2 : s ≤ 64) (w : World) : Calls Try.prog 39 #[.int .i64 (j : Nat), .int .i64 s] w fun e w' => e = .returned (.agg #[.int .i64 (rbN j s 0), .int .i64 (rbN j s 1), .int .i64 (rbN j s 2), .int .i64 (rbN j s 3)]) ∧ Below w.heap.size w w' := by
  have HS := hide (r4_start w 70)
  have HS1 := hide h1
  have HS2 := hide h2
  have HJ := hide hj
  clear h1 h2 hj
  go_enter Try.func39, Try.ntmps39
  go_upto_region 2 with fail
  have hbw := belowT_allocs (w.alloc (.cells #[.int .i64 0, .int .i64 0, .int .i64 0, .int .i64 0] 70)) (.cells #[.int .i64 0, .int .i64 0, .int .i64 0, .int .i64 0] 70)
  refine wp_gen (fun W => RbSt (w.alloc (.cells #[.int .i64 0, .int .i64 0, .int .i64 0, .int .i64 0] 70)).heap.size (fun _ => 0) w W) ⟨HS.out.below hbw, liesI_new _ (fun _ => 0) _, fun i => by simp [go_sem], by simp⟩ ?_
  clear HS hbw
  simp only [World.size_alloc]
  generalize hpp : w.heap.size + 1 = p
  clear hpp
  rintro W4 h4
  have HB0 := hide h4
  clear h4
  go_wp2
  go_loopw [6] (fun i wr => ∃ (k : Nat) (f : Nat → Int), k ≤ 4 ∧ i = .int .i64 k ∧ Hid (∀ m, m < k → f m = rbN j s m) ∧ Hid (RbSt p f w wr))
    (fun i _ => 4 - (intOf i).toNat)
  case atStart => exact ⟨0, fun _ => 0, by omega, rfl, fun m hm => absurd hm (by omega), HB0⟩
  case round =>
    clear HB0
    obtain ⟨k, f, hk, rfl, HF, hst⟩ := hrel
    rcases (show k = 0 ∨ k = 1 ∨ k = 2 ∨ k = 3 ∨ k = 4 by omega) with rfl | rfl | rfl | rfl | rfl
    · go_wp2
      go_loopw [8, 9] (fun qv nv wr2 => ∃ (n q : Nat), n ≤ j ∧ qv = .int .i64 q ∧ nv = .int .i64 n ∧ Hid (q = 36 / 4 ^ n) ∧ wr2 = wr)
        (fun qv _ _ => (intOf qv).toNat)
      case atStart => exact ⟨0, 36, by omega, rfl, rfl, hide rfl, rfl⟩
      case round =>
        obtain ⟨n, q, hn, rfl, rfl, hq, rfl⟩ := hrel
        have hqQ := hide (show q ≤ 36 by rw [hq.out]; exact Nat.div_le_self _ _)
        by_cases hgo : n < j ∧ 0 < q
        · obtain ⟨hnj, hq0⟩ := hgo
          have hn1 : (n : Int) < (j : Int) := by omega
          have hq1 : (0 : Int) < (q : Int) := by omega
          have HQ2 : Hid (q / 4 = 36 / 4 ^ (n + 1)) := by apply hide; rw [hq.out, Nat.pow_succ, Nat.div_div_eq_div_mul]
          have hq36 := hqQ.out
          have hw1 : IntKind.i64.wrap ((n : Int) + 1) = ((n + 1 : Nat) : Int) := by rw [IntKind.wrap_i64]; have := HJ.out; omega
          have hd4 : (q : Int).tdiv 4 = ((q / 4 : Nat) : Int) := by rw [Int.tdiv_eq_ediv_of_nonneg (by omega)]; omega
          clear hq
          go_wp2
          go_roundw
          case rel => exact ⟨n + 1, q / 4, by omega, by go_num, by go_num, HQ2, by first | rfl | trivial⟩
          case measure => simp [intOf]; omega
        · have HQF : Hid ((q : Int) = qN 36 j) := by
            apply hide
            unfold qN
            rcases (show n = j ∨ q = 0 by omega) with h | h
            · rw [← h, hq.out]
            · have hp : 4 ^ n ≤ 4 ^ j := Nat.pow_le_pow_right (by decide) hn
              have h0 : 36 / 4 ^ j ≤ 36 / 4 ^ n := Nat.div_le_div_left hp (Nat.pow_pos (by decide))
              rw [← hq.out, h] at h0
              rw [h, Nat.le_zero.1 h0]
          have HN : Hid (∀ m, m < 1 → (fun m => if m = 0 then 3 * s + (q : Int) else f m) m = rbN j s m) := fun m hm => by
            show (if m = 0 then _ else f m) = _
            split
            · rename_i h
              rw [h, HQF.out]; rfl
            · exact HF.out m (by omega)
          have hst2 := hide (hst.out.set 0 (by decide) (3 * s + (q : Int)))
          have h1 := HS1.out
          have h2 := HS2.out
          have hq36 := hqQ.out
          have hwa : IntKind.i64.wrap (3 * s + (q : Int)) = 3 * s + (q : Int) := by rw [IntKind.wrap_i64]; omega
          have hwb : IntKind.i64.wrap (3 * s) = 3 * s := by rw [IntKind.wrap_i64]; omega
          have hc := hst.out.l.1
          have hcl := hst.out.l.2
          have hcf := hst.out.fr
          clear HQF hq HF hst hqQ
          by_cases hnj : (n : Int) < (j : Int)
          · have hq0 : ¬ (0 : Int) < (q : Int) := by omega
            clear hgo h1 h2 hq36
            go_wp2
            go_roundw
            case rel => exact ⟨1, _, by omega, by rfl, HN, hst2⟩
            case measure => simp [intOf]
          · clear hgo h1 h2 hq36
            go_wp2
            go_roundw
            case rel => exact ⟨1, _, by omega, by rfl, HN, hst2⟩
            case measure => simp [intOf]
    · go_wp2
      go_loopw [8, 9] (fun qv nv wr2 => ∃ (n q : Nat), n ≤ j ∧ qv = .int .i64 q ∧ nv = .int .i64 n ∧ Hid (q = 4 / 4 ^ n) ∧ wr2 = wr)
        (fun qv _ _ => (intOf qv).toNat)
      case atStart => exact ⟨0, 4, by omega, rfl, rfl, hide rfl, rfl⟩
      case round =>
        obtain ⟨n, q, hn, rfl, rfl, hq, rfl⟩ := hrel
        have hqQ := hide (show q ≤ 4 by rw [hq.out]; exact Nat.div_le_self _ _)
        by_cases hgo : n < j ∧ 0 < q
        · obtain ⟨hnj, hq0⟩ := hgo
          have hn1 : (n : Int) < (j : Int) := by omega
          have hq1 : (0 : Int) < (q : Int) := by omega
          have HQ2 : Hid (q / 4 = 4 / 4 ^ (n + 1)) := by apply hide; rw [hq.out, Nat.pow_succ, Nat.div_div_eq_div_mul]
          have hq36 := hqQ.out
          have hw1 : IntKind.i64.wrap ((n : Int) + 1) = ((n + 1 : Nat) : Int) := by rw [IntKind.wrap_i64]; have := HJ.out; omega
          have hd4 : (q : Int).tdiv 4 = ((q / 4 : Nat) : Int) := by rw [Int.tdiv_eq_ediv_of_nonneg (by omega)]; omega
          clear hq
          go_wp2
          go_roundw
          case rel => exact ⟨n + 1, q / 4, by omega, by go_num, by go_num, HQ2, by first | rfl | trivial⟩
          case measure => simp [intOf]; omega
        · have HQF : Hid ((q : Int) = qN 4 j) := by
            apply hide
            unfold qN
            rcases (show n = j ∨ q = 0 by omega) with h | h
            · rw [← h, hq.out]
            · have hp : 4 ^ n ≤ 4 ^ j := Nat.pow_le_pow_right (by decide) hn
              have h0 : 4 / 4 ^ j ≤ 4 / 4 ^ n := Nat.div_le_div_left hp (Nat.pow_pos (by decide))
              rw [← hq.out, h] at h0
              rw [h, Nat.le_zero.1 h0]
          have HN : Hid (∀ m, m < 2 → (fun m => if m = 1 then s + (q : Int) else f m) m = rbN j s m) := fun m hm => by
            show (if m = 1 then _ else f m) = _
            split
            · rename_i h
              rw [h, HQF.out]; rfl
            · exact HF.out m (by omega)
          have hst2 := hide (hst.out.set 1 (by decide) (s + (q : Int)))
          have h1 := HS1.out
          have h2 := HS2.out
          have hq36 := hqQ.out
          have hwa : IntKind.i64.wrap (s + (q : Int)) = s + (q : Int) := by rw [IntKind.wrap_i64]; omega
          have hwb : IntKind.i64.wrap (s) = s := by rw [IntKind.wrap_i64]; omega
          have hc := hst.out.l.1
          have hcl := hst.out.l.2
          have hcf := hst.out.fr
          clear HQF hq HF hst hqQ
          by_cases hnj : (n : Int) < (j : Int)
          · have hq0 : ¬ (0 : Int) < (q : Int) := by omega
            clear hgo h1 h2 hq36
            go_wp2
            go_roundw
            case rel => exact ⟨2, _, by omega, by rfl, HN, hst2⟩
            case measure => simp [intOf]
          · clear hgo h1 h2 hq36
            go_wp2
            go_roundw
            case rel => exact ⟨2, _, by omega, by rfl, HN, hst2⟩
            case measure => simp [intOf]
    · go_wp2
      go_loopw [8, 9] (fun qv nv wr2 => ∃ (n q : Nat), n ≤ j ∧ qv = .int .i64 q ∧ nv = .int .i64 n ∧ Hid (q = 4 / 4 ^ n) ∧ wr2 = wr)
        (fun qv _ _ => (intOf qv).toNat)
      case atStart => exact ⟨0, 4, by omega, rfl, rfl, hide rfl, rfl⟩
      case round =>
        obtain ⟨n, q, hn, rfl, rfl, hq, rfl⟩ := hrel
        have hqQ := hide (show q ≤ 4 by rw [hq.out]; exact Nat.div_le_self _ _)
        by_cases hgo : n < j ∧ 0 < q
        · obtain ⟨hnj, hq0⟩ := hgo
          have hn1 : (n : Int) < (j : Int) := by omega
          have hq1 : (0 : Int) < (q : Int) := by omega
          have HQ2 : Hid (q / 4 = 4 / 4 ^ (n + 1)) := by apply hide; rw [hq.out, Nat.pow_succ, Nat.div_div_eq_div_mul]
          have hq36 := hqQ.out
          have hw1 : IntKind.i64.wrap ((n : Int) + 1) = ((n + 1 : Nat) : Int) := by rw [IntKind.wrap_i64]; have := HJ.out; omega
          have hd4 : (q : Int).tdiv 4 = ((q / 4 : Nat) : Int) := by rw [Int.tdiv_eq_ediv_of_nonneg (by omega)]; omega
          clear hq
          go_wp2
          go_roundw
          case rel => exact ⟨n + 1, q / 4, by omega, by go_num, by go_num, HQ2, by first | rfl | trivial⟩
          case measure => simp [intOf]; omega
        · have HQF : Hid ((q : Int) = qN 4 j) := by
            apply hide
            unfold qN
            rcases (show n = j ∨ q = 0 by omega) with h | h
            · rw [← h, hq.out]
            · have hp : 4 ^ n ≤ 4 ^ j := Nat.pow_le_pow_right (by decide) hn
              have h0 : 4 / 4 ^ j ≤ 4 / 4 ^ n := Nat.div_le_div_left hp (Nat.pow_pos (by decide))
              rw [← hq.out, h] at h0
              rw [h, Nat.le_zero.1 h0]
          have HN : Hid (∀ m, m < 3 → (fun m => if m = 2 then -s + (q : Int) else f m) m = rbN j s m) := fun m hm => by
            show (if m = 2 then _ else f m) = _
            split
            · rename_i h
              rw [h, HQF.out]; rfl
            · exact HF.out m (by omega)
          have hst2 := hide (hst.out.set 2 (by decide) (-s + (q : Int)))
          have h1 := HS1.out
          have h2 := HS2.out
          have hq36 := hqQ.out
          have hwa : IntKind.i64.wrap (-s + (q : Int)) = -s + (q : Int) := by rw [IntKind.wrap_i64]; omega
          have hwb : IntKind.i64.wrap (-s) = -s := by rw [IntKind.wrap_i64]; omega
          have hc := hst.out.l.1
          have hcl := hst.out.l.2
          have hcf := hst.out.fr
          clear HQF hq HF hst hqQ
          by_cases hnj : (n : Int) < (j : Int)
          · have hq0 : ¬ (0 : Int) < (q : Int) := by omega
            clear hgo h1 h2 hq36
            go_wp2
            go_roundw
            case rel => exact ⟨3, _, by omega, by rfl, HN, hst2⟩
            case measure => simp [intOf]
          · clear hgo h1 h2 hq36
            go_wp2
            go_roundw
            case rel => exact ⟨3, _, by omega, by rfl, HN, hst2⟩
            case measure => simp [intOf]
    · go_wp2
      go_loopw [8, 9] (fun qv nv wr2 => ∃ (n q : Nat), n ≤ j ∧ qv = .int .i64 q ∧ nv = .int .i64 n ∧ Hid (q = 36 / 4 ^ n) ∧ wr2 = wr)
        (fun qv _ _ => (intOf qv).toNat)
      case atStart => exact ⟨0, 36, by omega, rfl, rfl, hide rfl, rfl⟩
      case round =>
        obtain ⟨n, q, hn, rfl, rfl, hq, rfl⟩ := hrel
        have hqQ := hide (show q ≤ 36 by rw [hq.out]; exact Nat.div_le_self _ _)
        by_cases hgo : n < j ∧ 0 < q
        · obtain ⟨hnj, hq0⟩ := hgo
          have hn1 : (n : Int) < (j : Int) := by omega
          have hq1 : (0 : Int) < (q : Int) := by omega
          have HQ2 : Hid (q / 4 = 36 / 4 ^ (n + 1)) := by apply hide; rw [hq.out, Nat.pow_succ, Nat.div_div_eq_div_mul]
          have hq36 := hqQ.out
          have hw1 : IntKind.i64.wrap ((n : Int) + 1) = ((n + 1 : Nat) : Int) := by rw [IntKind.wrap_i64]; have := HJ.out; omega
          have hd4 : (q : Int).tdiv 4 = ((q / 4 : Nat) : Int) := by rw [Int.tdiv_eq_ediv_of_nonneg (by omega)]; omega
          clear hq
          go_wp2
          go_roundw
          case rel => exact ⟨n + 1, q / 4, by omega, by go_num, by go_num, HQ2, by first | rfl | trivial⟩
          case measure => simp [intOf]; omega
        · have HQF : Hid ((q : Int) = qN 36 j) := by
            apply hide
            unfold qN
            rcases (show n = j ∨ q = 0 by omega) with h | h
            · rw [← h, hq.out]
            · have hp : 4 ^ n ≤ 4 ^ j := Nat.pow_le_pow_right (by decide) hn
              have h0 : 36 / 4 ^ j ≤ 36 / 4 ^ n := Nat.div_le_div_left hp (Nat.pow_pos (by decide))
              rw [← hq.out, h] at h0
              rw [h, Nat.le_zero.1 h0]
          have HN : Hid (∀ m, m < 4 → (fun m => if m = 3 then -3 * s + (q : Int) else f m) m = rbN j s m) := fun m hm => by
            show (if m = 3 then _ else f m) = _
            split
            · rename_i h
              rw [h, HQF.out]; rfl
            · exact HF.out m (by omega)
          have hst2 := hide (hst.out.set 3 (by decide) (-3 * s + (q : Int)))
          have h1 := HS1.out
          have h2 := HS2.out
          have hq36 := hqQ.out
          have hwa : IntKind.i64.wrap (-3 * s + (q : Int)) = -3 * s + (q : Int) := by rw [IntKind.wrap_i64]; omega
          have hwb : IntKind.i64.wrap (-3 * s) = -3 * s := by rw [IntKind.wrap_i64]; omega
          have hc := hst.out.l.1
          have hcl := hst.out.l.2
          have hcf := hst.out.fr
          clear HQF hq HF hst hqQ
          by_cases hnj : (n : Int) < (j : Int)
          · have hq0 : ¬ (0 : Int) < (q : Int) := by omega
            clear hgo h1 h2 hq36
            go_wp2
            go_roundw
            case rel => exact ⟨4, _, by omega, by rfl, HN, hst2⟩
            case measure => simp [intOf]
          · clear hgo h1 h2 hq36
            go_wp2
            go_roundw
            case rel => exact ⟨4, _, by omega, by rfl, HN, hst2⟩
            case measure => simp [intOf]
    · have hx : ∀ i, i < 4 → wr.cell? ⟨p, i, none⟩ = some (.int .i64 (rbN j s i)) := fun i hi => by rw [hst.out.l.1 i hi, HF.out i hi]
      have hr1 := hst.out.r.l.1
      have hrl1 := hst.out.r.l.2
      have hrf1 := hst.out.r.f
      have HBE := hide hst.out.r.bel
      clear HF hst
      go_wp2
      exact bodyPost_ret (v := .agg #[.int .i64 (rbN j s 0), .int .i64 (rbN j s 1), .int .i64 (rbN j s 2), .int .i64 (rbN j s 3)]) (by simp [results, Try.results39, go_sem, hr1, hrl1]) rfl ⟨rfl, below_set4 HBE.out _ (by omega) _ _ _ _⟩
end Go.Proofs.Ytbngaajhdaciaaa

/- Plain numbers of layer 15: what is left behind each step stays within two thirds (nothing of the program but the table's own numbers). -/
set_option linter.unusedVariables false
set_option linter.unusedSimpArgs false
set_option maxRecDepth 8000
namespace Go.Proofs.Ytbngaajhdaciaaa
open Plain

theorem pow4_pos (n : Nat) : 0 < (4 : Int) ^ n := Int.pow_pos (by decide)
theorem pow4_step {T j : Nat} (h : j ≤ T) : (4 : Int) ^ (T + 1 - j) = 4 * 4 ^ (T - j) := by
  rw [show T + 1 - j = (T - j) + 1 by omega, Int.pow_succ, Int.mul_comm]

section
variable {i E D N : Int} {T : Nat} (h1 : 8 ≤ i) (h2 : i ≤ 15) (hE : 0 < E) (hD1 : i * E ≤ D) (hD2 : D < (i + 1) * E) (hN0 : 0 ≤ N) (hN : 3 * N ≤ 2 * (D * 4 ^ (T + 1)))
include h1 h2 hE hD1 hD2 hN0 hN
end
end Go.Proofs.Ytbngaajhdaciaaa

/- Contracts: radicandref15.Run. -/
set_option linter.unusedVariables false
set_option linter.unusedSimpArgs false
set_option maxRecDepth 8000
namespace Go.Proofs.Ytbngaajhdaciaaa
open Go.RowKit Plain

theorem cell_grown {W W' : World} {row : Option Nat} {b i : Nat} (hg : W.grownBy W' row) (hb : b < W.heap.size) (hr : some b ≠ row) : W'.cell? ⟨b, i, none⟩ = W.cell? ⟨b, i, none⟩ := World.cell?_of_block (w := W) (hg.block b hb hr)
theorem big_grown {W W' : World} {row : Option Nat} {ao : Option Addr} {l c n K : Nat} (hg : W.grownBy W' row) (h : BigV W (.slice ao l c) n K) (hr : ∀ b off, ao = some ⟨b, off, none⟩ → some b ≠ row) : BigV W' (.slice ao l c) n K := by
  obtain ⟨ls, ⟨ao', ca, he, hc, hm, hx⟩, hd, hn, hk⟩ := h
  simp only [Value.slice.injEq] at he
  obtain ⟨rfl, hl, rfl⟩ := he
  refine ⟨ls, ⟨ao, c, by rw [hl], hc, hm, ?_⟩, hd, hn, hk⟩
  rcases hx with hx | ⟨b, off, rfl, hlt, hcell⟩
  · exact .inl hx
  · exact .inr ⟨b, off, rfl, Nat.lt_of_lt_of_le hlt hg.size, fun i hi => (cell_grown hg hlt (hr b off rfl)).trans (hcell i hi)⟩
/-- 'out = append(out, x)', out the call's own: only its row may have changed. -/
theorem wpList_appG {P : Program} {ops : Array Oper} {rest : List Oper} {o : Oper} {a : Act} {Q : Exit → Act → World → Prop} (wr : World) (hgd : o.guard = none) (s x : Operand) (t : TypeId)
    (ho : o.op = .call { callee := .builtin .append, args := #[s, x], argTypes := #[t, t] })
    (base : Nat) (e : TypeId) (i : TypeInfo) (z : Value) (bytes : Nat) (ht : P.underlying t = some (.slice e)) (hi : P.info? e = some i) (hz : i.zero = some z)
    (hsize : i.size = 1) (hby : i.bytes = bytes) (hzs : z.cells.size = 1)
    (mk : Nat → Value) (v : Value) (n : Nat) (l : List Nat) (hs : a.eval s = v) (hown : wr.ownsRow base e 1 v n (l.map mk))
    (y : Value) (d : Nat) (hy : y = mk d) (h1 : y.oneCell' = true) (hx : a.eval x = .slice (some ⟨wr.heap.size, 0, none⟩) 1 1)
    (h63 : n + 1 ≤ 9223372036854775807) (hbytes : (n + 1) * bytes ≤ 140737488355328) (hbase : base ≤ wr.heap.size)
    (h : ∀ v' w', w'.ownsRow base e 1 v' (n + 1) ((l ++ [d]).map mk) → wr.grownBy w' v.ownBlock → wpList P ops Q rest (a.put o.dst v') w') :
    wpList P ops Q (o :: rest) a (wr.alloc (.cells #[y] e)) := by
  refine wpList_append_own _ hgd s x t ho base e i z 1 bytes ht hi hz hsize hby hzs (by decide) v n (l.map mk) hs (hown.alloc _) ⟨wr.heap.size, 0, none⟩ 1 1 [y] hx rfl ?_ ?_ (by unfold maxLen; omega) hbytes (by simp; omega) ?_
  · intro j u hj
    match j, hj with
    | 0, hj => simp at hj; subst hj; simp [Addr.add]
  · intro u hu; simp at hu; subst hu; exact h1
  · intro v' w' ho' hg _
    refine h v' w' (by rw [List.map_append, List.map_singleton, ← hy]; exact ho') ?_
    exact grownBy_trans (grownBy_of_below (Below.alloc (Below.refl _ wr) (Nat.le_refl _) _) _) hg

theorem big_lt {W : World} {b off l c n K : Nat} (h : BigV W (.slice (some ⟨b, off, none⟩) l c) n K) (hn : n ≠ 0) : b < W.heap.size := by
  obtain ⟨ls, ⟨ao', ca, he, hc, hm, hx⟩, hd, -, -⟩ := h
  simp only [Value.slice.injEq] at he
  obtain ⟨rfl, hl, rfl⟩ := he
  rcases hx with hx | ⟨b', off', e, hlt, -⟩
  · have h1 := hd.1
    rw [hx, Nat.pow_zero] at h1
    omega
  · cases e; exact hlt
theorem owns_slice {w : World} {base n : Nat} {e : TypeId} {size : Nat} {v : Value} {xs : List Value} (h : w.ownsRow base e size v n xs) : ∃ ao l c, v = .slice ao l c := by
  rcases h.2 with ⟨rfl, _⟩ | ⟨g, cap, cur, rfl, _⟩
  · exact ⟨_, _, _, rfl⟩
  · exact ⟨_, _, _, rfl⟩
section
variable {p base ly cy D : Nat} {oy : Option Addr} {w W W' : World}
end
/-- The first k of a sequence of ints, as a row keeps them. -/
def seqL (f : Nat → Int) (k : Nat) : List Nat := (List.range k).map fun i => nof (f i)
theorem seqL_len (f : Nat → Int) (k : Nat) : (seqL f k).length = k := by simp [seqL]
theorem seqL_succ (f : Nat → Int) (k : Nat) : seqL f (k + 1) = seqL f k ++ [nof (f k)] := by simp [seqL, List.range_succ]
theorem seqL_get (f : Nat → Int) (k i : Nat) (h : i < k) : dg (seqL f k) i = nof (f i) := by simp [dg, seqL, h]

end Go.Proofs.Ytbngaajhdaciaaa

/- radicandref15.Run: the digits, and what is left, in plain numbers. -/
set_option linter.unusedVariables false
set_option linter.unusedSimpArgs false
set_option maxRecDepth 8000
namespace Go.Proofs.Ytbngaajhdaciaaa
open Go.RowKit Plain

theorem pow4_two (k : Nat) : (4 : Int) ^ k = ((2 ^ (2 * k) : Nat) : Int) := by
  rw [Nat.pow_mul]
  simp

end Go.Proofs.Ytbngaajhdaciaaa

/- Contracts: radicandref16.Norm. -/
set_option linter.unusedVariables false
set_option linter.unusedSimpArgs false
set_option maxRecDepth 8000
namespace Go.Proofs.Ytbngaajhdaciaaa
open Go.RowKit Plain

theorem bitLen_up (n k : Nat) (h0 : n ≠ 0) : Go.bitLen (n * 2 ^ k) = Go.bitLen n + k := by
  have h1 := bitLen_spec n
  have h2 := bitLen_spec (n * 2 ^ k)
  have hp := Nat.two_pow_pos k
  have h3 : n * 2 ^ k ≠ 0 := by
    have := Nat.mul_pos (Nat.pos_of_ne_zero h0) hp
    omega
  have hl : Go.bitLen n ≠ 0 := fun e => by have := h1.1; rw [e] at this; omega
  have a : n * 2 ^ k < 2 ^ (Go.bitLen n + k) := by rw [Nat.pow_add]; exact Nat.mul_lt_mul_of_pos_right h1.1 hp
  have b : 2 ^ (Go.bitLen n + k - 1) ≤ n * 2 ^ k := by
    rw [show Go.bitLen n + k - 1 = Go.bitLen n - 1 + k by omega, Nat.pow_add]
    exact Nat.mul_le_mul_right _ (h1.2 h0)
  exact Nat.le_antisymm (pow_inj_len (by decide) a (.inr (h2.2 h3))) (pow_inj_len (by decide) h2.1 (.inr b))

/-- How many pairs of digits a number is shifted up. -/
def nb16 (n : Nat) : Nat := (256 - Go.bitLen n) / 2
/-- The number, shifted up. -/
def up16 (n : Nat) : Nat := n * 2 ^ (2 * nb16 n)

set_option maxHeartbeats 4000000 in
theorem norm16_walk (n L m : Nat) (hm : (256 - L) / 2 = m) (hlen : Hid (∀ j, Go.bitLen (n * 2 ^ (2 * j)) = L + 2 * j))
    (HB : Hid (∀ w, Calls Try.prog 20 #[.agg #[.int .u64 (dgl (n) 0 : Nat), .int .u64 (dgl (n) 1 : Nat), .int .u64 (dgl (n) 2 : Nat), .int .u64 (dgl (n) 3 : Nat), .int .u64 (dgl (n) 4 : Nat), .int .u64 (dgl (n) 5 : Nat), .int .u64 (dgl (n) 6 : Nat), .int .u64 (dgl (n) 7 : Nat)]] w fun e w' => ∃ v, e = .returned v ∧ BigV w' v n 40 ∧ Below w.heap.size w w')) (w : World) :
    Calls Try.prog 16 #[.agg #[.int .u64 (dgl (n) 0 : Nat), .int .u64 (dgl (n) 1 : Nat), .int .u64 (dgl (n) 2 : Nat), .int .u64 (dgl (n) 3 : Nat), .int .u64 (dgl (n) 4 : Nat), .int .u64 (dgl (n) 5 : Nat), .int .u64 (dgl (n) 6 : Nat), .int .u64 (dgl (n) 7 : Nat)]] w fun e w' => ∃ v, e = .returned (.tuple #[v, .int .i64 ((2 * m : Nat) : Int)]) ∧ BigV w' v (n * 2 ^ (2 * m)) (40 + 2 * m) ∧ Below w.heap.size w w' := by
  go_enter Try.func16, Try.ntmps16
  go_wp2_with fail
  refine (HB.out _).mono ?_
  rintro e w1 ⟨v1, rfl, h1, hb1⟩
  have HV := hide h1
  have HW := hide (below_alloc_then hb1)
  clear h1 hb1 HB
  go_wp2
  go_loopw [4, 5] (fun v i wr => ∃ j : Nat, j ≤ m ∧ i = .int .i64 ((2 * j : Nat) : Int) ∧ Hid (BigV wr v (n * 2 ^ (2 * j)) (40 + 2 * j)) ∧ Hid (Below w.heap.size w wr))
    (fun _ i _ => 2 * m - (intOf i).toNat)
  case atStart => exact ⟨0, by omega, rfl, by simpa using HV, HW⟩
  case round =>
    clear HV HW
    obtain ⟨j, hj, rfl, HV, HW⟩ := hrel
    have HLN := hide (refLen_any _ _ _ _ HV.out (by omega))
    rw [hlen.out j] at HLN
    by_cases hlt : j < m
    · have hc : ((L + 2 * j : Nat) : Int) < 255 := by omega
      go_wp2_with fail
      refine HLN.out.mono ?_
      rintro e w2 ⟨rfl, hw⟩
      subst w2
      have HS := hide (refShl_any _ _ 2 _ _ HV.out (by omega) (by decide))
      clear HLN HV
      go_wp2_with fail
      refine HS.out.mono ?_
      rintro e w2 ⟨v2, rfl, hv2, hb2⟩
      have HV : Hid (BigV w2 v2 (n * 2 ^ (2 * (j + 1))) (40 + 2 * (j + 1))) := by
        have h := hv2.mono (show _ ≤ 40 + 2 * (j + 1) by omega)
        rw [Nat.mul_assoc, ← Nat.pow_add] at h
        exact h
      have HW2 := hide (below_trans HW.out hb2)
      clear HS hv2 hb2 HW
      have hst : IntKind.i64.wrap (((2 * j : Nat) : Int) + 2) = ((2 * (j + 1) : Nat) : Int) := by rw [IntKind.wrap_i64]; omega
      go_wp2
      go_roundw
      case rel => exact ⟨j + 1, by omega, by first | rfl | go_num, HV, HW2⟩
      case measure => simp [intOf]; omega
    · have hc : ¬ ((L + 2 * j : Nat) : Int) < 255 := by omega
      have hj2 : j = m := by omega
      subst hj2
      go_wp2_with fail
      refine HLN.out.mono ?_
      rintro e w2 ⟨rfl, hw⟩
      subst w2
      clear HLN
      go_wp2
      exact bodyPost_ret (v := .tuple #[_, .int .i64 ((2 * j : Nat) : Int)]) (by simp [results, Try.results16, go_sem]) rfl ⟨_, rfl, HV.out, HW.out⟩

/-- Norm: a number that isn't 0, shifted up. -/
theorem norm16_any (n : Nat) (hn : n < QQ) (h0 : n ≠ 0) (w : World) :
    Calls Try.prog 16 #[.agg #[.int .u64 (dgl (n) 0 : Nat), .int .u64 (dgl (n) 1 : Nat), .int .u64 (dgl (n) 2 : Nat), .int .u64 (dgl (n) 3 : Nat), .int .u64 (dgl (n) 4 : Nat), .int .u64 (dgl (n) 5 : Nat), .int .u64 (dgl (n) 6 : Nat), .int .u64 (dgl (n) 7 : Nat)]] w fun e w' => ∃ v, e = .returned (.tuple #[v, .int .i64 ((2 * nb16 n : Nat) : Int)]) ∧ BigV w' v (up16 n) 300 ∧ Below w.heap.size w w' := by
  refine (norm16_walk n (Go.bitLen n) (nb16 n) rfl (hide fun j => bitLen_up n (2 * j) h0) (hide fun w => refBig_any n hn w) w).mono ?_
  rintro e w' ⟨v, rfl, hv, hb⟩
  exact ⟨v, rfl, hv.mono (by unfold nb16; omega), hb⟩
end Go.Proofs.Ytbngaajhdaciaaa

