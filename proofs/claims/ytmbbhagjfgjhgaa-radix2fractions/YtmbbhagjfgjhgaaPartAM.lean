/- Contracts and laws: GrowB, GrowS, GrowG, WideQ, WideR, WideS, WideU, ProdA, ProdB, ProdC, ProdD, ProdE, GrowP, WideV. -/
import Derived.Test.YtmbbhagjfgjhgaaPartAC
import Derived.Test.YtmbbhagjfgjhgaaPartAL
import Derived.Deep.DeepCutAuto
/- The steps of such a region, one law for each kind of operation. -/
set_option linter.unusedVariables false
set_option linter.unusedSimpArgs false
set_option maxRecDepth 8000
namespace Go.Proofs.Ytmbbhagjfgjhgaa
open Go.RowKit Plain

section
variable {ops : Array Oper} {a : Act} {T : List (Nat × SlotIs)} {C : World → Prop} {o : Oper}

def gRun (a : Act) (T : List (Nat × SlotIs)) (C : World → Prop) (o : Oper) (looks : List Tmp) : Prop :=
  ∀ (ρ : Operand → Value) (w : World), C w → (∀ c, ρ (.const c) = c) → (∀ f, ρ (.func f) = .func (.func f) #[] #[]) → (∀ t ∈ looks, tbl a t T (ρ (.tmp t)) w) →
    gUpon Try.prog (gPost a T o w) ((execOp ρ o).run Try.prog w)

theorem gStep_run (hg : o.guard = none) (h : gRun a T C o (o.looksAt ops)) : gStep Try.prog ops a T C o := by
  intro A w hC hL
  have hw : Region.wanted o (yielded ops A.tmps) = true := by unfold Region.wanted; rw [hg]
  rw [if_pos hw]
  exact h A.eval w hC (fun _ => rfl) (fun _ => rfl) hL

theorem yielded_eval (A : Act) (g t : Nat) (b : Bool) (ht : (ops[g]?).bind (·.dst) = some t) (h : A.eval (.tmp t) = .bool b) : yielded ops A.tmps g = some b := by
  unfold yielded
  rw [ht]
  simp only [Act.eval] at h
  simp only [Option.bind_some]
  by_cases hlt : t < A.tmps.size
  · simp [hlt] at h ⊢
    rw [h]
  · simp [hlt, undef] at h

theorem gStep_on (g t : Nat) (b : Bool) (hg : o.guard = some (g, b)) (ht : (ops[g]?).bind (·.dst) = some t) (hm : t ∈ o.looksAt ops) (hT : ∀ v w, tbl a t T v w → v = .bool b) (h : gRun a T C o (o.looksAt ops)) : gStep Try.prog ops a T C o := by
  intro A w hC hL
  have hw : Region.wanted o (yielded ops A.tmps) = true := by
    unfold Region.wanted; rw [hg]
    simp only [yielded_eval A g t b ht (hT _ _ (hL t hm)), beq_self_eq_true]
  rw [if_pos hw]
  exact h A.eval w hC (fun _ => rfl) (fun _ => rfl) hL

/-- Moves. -/
theorem gRun_move {looks : List Tmp} (x d : Tmp) (ho : o.op = .move (.tmp x) ∨ o.op = .assign (.tmp x)) (hd : o.dst = some d) (hx : x ∈ looks) (h : ∀ v w, tbl a x T v w → tbl a d T v w) : gRun a T C o looks := by
  intro ρ w hC hc hf hL
  have hr : (execOp ρ o).run Try.prog w = .ok (.value (ρ (.tmp x))) w := by
    obtain ⟨dst, op, type, pos, after, guard⟩ := o
    rcases ho with ho | ho <;> (simp only at ho; subst ho; rfl)
  rw [hr]
  refine ⟨Below.refl _ _, ?_⟩
  rw [hd]
  exact h _ _ (hL x hx)
theorem gRun_const {looks : List Tmp} (x : Value) (d : Tmp) (ho : o.op = .move (.const x) ∨ o.op = .assign (.const x)) (hd : o.dst = some d) (h : ∀ w, tbl a d T x w) : gRun a T C o looks := by
  intro ρ w hC hc hf hL
  have hr : (execOp ρ o).run Try.prog w = .ok (.value x) w := by
    obtain ⟨dst, op, type, pos, after, guard⟩ := o
    rw [← hc x]
    rcases ho with ho | ho <;> (simp only at ho; subst ho; rfl)
  rw [hr]
  refine ⟨Below.refl _ _, ?_⟩
  rw [hd]
  exact h _
/-- A pick between what was reckoned and a constant. -/
theorem gRun_pickT {looks : List Tmp} (c x d : Tmp) (y : Operand) (ho : o.op = .pick (.tmp c) (.tmp x) y) (hd : o.dst = some d) (hcm : c ∈ looks) (hxm : x ∈ looks)
    (hT : ∀ v w, tbl a c T v w → v = .bool true) (h : ∀ v w, tbl a x T v w → tbl a d T v w) : gRun a T C o looks := by
  intro ρ w hC hc hf hL
  have hr : (execOp ρ o).run Try.prog w = .ok (.value (ρ (.tmp x))) w := by
    obtain ⟨dst, op, type, pos, after, guard⟩ := o
    simp only at ho; subst ho
    have := hT _ _ (hL c hcm)
    simp [execOp, this, go_sem]
  rw [hr]
  refine ⟨Below.refl _ _, ?_⟩
  rw [hd]
  exact h _ _ (hL x hxm)
end

/-- A new block of the call's own that holds eight limbs. -/
def SlotIs.box (B : Nat) (f : Nat → Nat) : SlotIs :=
  ⟨fun v w => ∃ b, v = .pointer (some ⟨b, 0, none⟩) ∧ B ≤ b ∧ LiesF w b f ∧ ∀ i, w.frozen? ⟨b, i, none⟩ = false,
   fun v w w' hb ⟨b, h1, h2, h3, h4⟩ => ⟨b, h1, h2, h3.below hb, fun i => (hb.frozen (p := ⟨b, i, none⟩) h3.2).trans (h4 i)⟩⟩
def SlotIs.big (n K : Nat) : SlotIs := ⟨fun v w => BigV w v n K, fun v w w' hb h => h.below hb⟩

end Go.Proofs.Ytmbbhagjfgjhgaa

/- Likewise, where some of the operations store into blocks that nobody else reads: the class of worlds tells which of them have been done. -/
set_option linter.unusedVariables false
set_option linter.unusedSimpArgs false
set_option maxRecDepth 8000
namespace Go.Proofs.Ytmbbhagjfgjhgaa
open Go.RowKit Plain

section
variable {P : Program} {ops : Array Oper} {n : Nat} {a : Act} {T : List (Nat × SlotIs)} {C : List Bool → World → Prop} {Q : Exit → Act → World → Prop} {ss : List Nat}

end
end Go.Proofs.Ytmbbhagjfgjhgaa

/- Likewise, where a table of relations stands through the stores. -/
set_option linter.unusedVariables false
set_option linter.unusedSimpArgs false
set_option maxRecDepth 8000
namespace Go.Proofs.Ytmbbhagjfgjhgaa
open Go.RowKit Plain

section
variable {P : Program} {ops : Array Oper} {n : Nat} {a : Act} {T : List (Nat × SlotIs)} {C : List Bool → World → Prop} {G : World → World → Prop} {Q : Exit → Act → World → Prop} {ss : List Nat}

end
end Go.Proofs.Ytmbbhagjfgjhgaa

/- Contracts: wide.Shr. -/
set_option linter.unusedVariables false
set_option linter.unusedSimpArgs false
set_option maxRecDepth 8000
namespace Go.Proofs.Ytmbbhagjfgjhgaa
open Go.RowKit Plain

end Go.Proofs.Ytmbbhagjfgjhgaa

/- Contracts: wide.Shr, as numbers; radicandref02.Sar. -/
set_option linter.unusedVariables false
set_option linter.unusedSimpArgs false
set_option maxRecDepth 8000
namespace Go.Proofs.Ytmbbhagjfgjhgaa
open Go.RowKit Plain

theorem w8_mod {x y : Nat} (h : x % QQ = y % QQ) : (#[.int .u64 (dgl (x) 0 : Nat), .int .u64 (dgl (x) 1 : Nat), .int .u64 (dgl (x) 2 : Nat), .int .u64 (dgl (x) 3 : Nat), .int .u64 (dgl (x) 4 : Nat), .int .u64 (dgl (x) 5 : Nat), .int .u64 (dgl (x) 6 : Nat), .int .u64 (dgl (x) 7 : Nat)] : Array Value) = #[.int .u64 (dgl (y) 0 : Nat), .int .u64 (dgl (y) 1 : Nat), .int .u64 (dgl (y) 2 : Nat), .int .u64 (dgl (y) 3 : Nat), .int .u64 (dgl (y) 4 : Nat), .int .u64 (dgl (y) 5 : Nat), .int .u64 (dgl (y) 6 : Nat), .int .u64 (dgl (y) 7 : Nat)] := by
  apply w8_congr (x := dgl x) (y := dgl y)
  intro i hi
  have h1 := wide_end (Q := 18446744073709551616) (by decide) x 8 i hi
  have h2 := wide_end (Q := 18446744073709551616) (by decide) y 8 i hi
  unfold dgl
  rw [← h1, ← h2]
  have h3 : x % 18446744073709551616 ^ 8 = y % 18446744073709551616 ^ 8 := h
  rw [h3]

theorem sh_up (a k : Nat) : sh a (k : Int) = a * 2 ^ k := by
  unfold sh
  rw [if_neg (by omega), Int.toNat_natCast]
theorem wide_eqb {a b : Nat} (ha : a < QQ) (hb : b < QQ) (w : World) :
    (Op.equalIn 10000 24 (.agg #[.int .u64 (dgl (a) 0 : Nat), .int .u64 (dgl (a) 1 : Nat), .int .u64 (dgl (a) 2 : Nat), .int .u64 (dgl (a) 3 : Nat), .int .u64 (dgl (a) 4 : Nat), .int .u64 (dgl (a) 5 : Nat), .int .u64 (dgl (a) 6 : Nat), .int .u64 (dgl (a) 7 : Nat)]) (.agg #[.int .u64 (dgl (b) 0 : Nat), .int .u64 (dgl (b) 1 : Nat), .int .u64 (dgl (b) 2 : Nat), .int .u64 (dgl (b) 3 : Nat), .int .u64 (dgl (b) 4 : Nat), .int .u64 (dgl (b) 5 : Nat), .int .u64 (dgl (b) 6 : Nat), .int .u64 (dgl (b) 7 : Nat)])).run Try.prog w = .ok (decide (a = b)) w := by
  by_cases h : a = b
  · subst h; rw [wide_same, decide_eq_true rfl]
  · rw [wide_diff ha hb h, decide_eq_false h]

end Go.Proofs.Ytmbbhagjfgjhgaa

/- radicandref02.Sar, as numbers: it tells what wide.Sar does. -/
set_option linter.unusedVariables false
set_option linter.unusedSimpArgs false
set_option maxRecDepth 8000
namespace Go.Proofs.Ytmbbhagjfgjhgaa
open Go.RowKit Plain

end Go.Proofs.Ytmbbhagjfgjhgaa

/- Sums, differences and signs of wides, as numbers. -/
set_option linter.unusedVariables false
set_option linter.unusedSimpArgs false
set_option maxRecDepth 8000
namespace Go.Proofs.Ytmbbhagjfgjhgaa
open Go.RowKit Plain

theorem bitLen_lt (a : Nat) : a < 2 ^ Go.bitLen a := by
  unfold Go.bitLen
  split
  · rename_i h; rw [h]; decide
  · exact Nat.lt_log2_self
theorem bitLen_le (a q : Nat) (h : a < 2 ^ q) : Go.bitLen a ≤ q := by
  unfold Go.bitLen
  split
  · omega
  · rename_i h0
    have := (Nat.log2_lt h0).2 h
    omega

end Go.Proofs.Ytmbbhagjfgjhgaa

/- The sum of limbs' products, as numbers. -/
set_option linter.unusedVariables false
set_option linter.unusedSimpArgs false
set_option maxRecDepth 8000
namespace Go.Proofs.Ytmbbhagjfgjhgaa
open Go.RowKit Plain

/-- A limb. -/
def LW : Nat := 18446744073709551616
theorem lw_pos : 0 < LW := by decide
theorem dgl_lw (n k : Nat) : dgl n k = n / LW ^ k % LW := rfl

end Go.Proofs.Ytmbbhagjfgjhgaa

/- Contracts: prod.summed. -/
set_option linter.unusedVariables false
set_option linter.unusedSimpArgs false
set_option maxRecDepth 8000
namespace Go.Proofs.Ytmbbhagjfgjhgaa
open Go.RowKit Plain

end Go.Proofs.Ytmbbhagjfgjhgaa

/- Contracts: prod.halves, prod.all. -/
set_option linter.unusedVariables false
set_option linter.unusedSimpArgs false
set_option maxRecDepth 8000
namespace Go.Proofs.Ytmbbhagjfgjhgaa
open Go.RowKit Plain

theorem lies_ne {W : World} {b B : Nat} {f : Nat → Nat} {x0 x1 x2 x3 x4 x5 x6 x7 : Value} (h : LiesF W b f) (hne : b ≠ B) : LiesF ((((((((W.setCell ⟨B, 0, none⟩ x0).setCell ⟨B, 1, none⟩ x1).setCell ⟨B, 2, none⟩ x2).setCell ⟨B, 3, none⟩ x3).setCell ⟨B, 4, none⟩ x4).setCell ⟨B, 5, none⟩ x5).setCell ⟨B, 6, none⟩ x6).setCell ⟨B, 7, none⟩ x7) b f := by
  refine ⟨fun i hi => ?_, by simpa using h.2⟩
  have := h.1 i hi
  simp [go_sem, this, hne]
end Go.Proofs.Ytmbbhagjfgjhgaa

/- Contracts: prod.Mul, Square, Small. -/
set_option linter.unusedVariables false
set_option linter.unusedSimpArgs false
set_option maxRecDepth 8000
namespace Go.Proofs.Ytmbbhagjfgjhgaa
open Go.RowKit Plain

theorem dgl_z : (dgl 0) = fun _ => 0 := funext dgl_zero
theorem wide_eqz {a : Nat} (ha : a < QQ) (w : World) : (Op.equalIn 10000 24 (.agg #[.int .u64 (dgl (a) 0 : Nat), .int .u64 (dgl (a) 1 : Nat), .int .u64 (dgl (a) 2 : Nat), .int .u64 (dgl (a) 3 : Nat), .int .u64 (dgl (a) 4 : Nat), .int .u64 (dgl (a) 5 : Nat), .int .u64 (dgl (a) 6 : Nat), .int .u64 (dgl (a) 7 : Nat)]) (.agg #[.int .u64 0, .int .u64 0, .int .u64 0, .int .u64 0, .int .u64 0, .int .u64 0, .int .u64 0, .int .u64 0])).run Try.prog w = .ok (decide (a = 0)) w := by
  have h := wide_eqb ha (show 0 < QQ by omega) w
  simp only [dgl_zero] at h
  exact h
end Go.Proofs.Ytmbbhagjfgjhgaa

/- Contracts: prod.Square, Small, Sum. -/
set_option linter.unusedVariables false
set_option linter.unusedSimpArgs false
set_option maxRecDepth 8000
namespace Go.Proofs.Ytmbbhagjfgjhgaa
open Go.RowKit Plain

def SlotIs.rd (l : List Nat) : SlotIs := ⟨fun v w => Rd mk64 w v l, fun v w w' hb h => h.below hb⟩

theorem ll_lt_qq {n : Nat} (h : n < 18446744073709551616) : n < QQ := Nat.lt_of_lt_of_le h (by unfold QQ; exact Nat.le_self_pow (by decide) _)

/-- A slice of wides. -/
def RdW (w : World) (v : Value) (l : List Nat) : Prop :=
  ∃ ao cap, v = .slice ao l.length cap ∧ l.length ≤ cap ∧ cap ≤ maxLen ∧
    (l.length = 0 ∨ ∃ b off, ao = some ⟨b, off, none⟩ ∧ b < w.heap.size ∧ ∀ i j, i < l.length → j < 8 → w.cell? ⟨b, off + i * 8 + j, none⟩ = some (.int .u64 (dgl (dg l i) j : Nat)))
def sumN (l : List Nat) : Nat → Nat
  | 0 => 0
  | k + 1 => sumN l k + dg l k

structure SumLSt (w : World) (s : Nat) (wr : World) : Prop where
  lr : LiesF wr w.heap.size (fun _ => 0)
  fr : ∀ i, wr.frozen? ⟨w.heap.size, i, none⟩ = false
  ls : LiesF wr (w.heap.size + 1) (dgl s)
  fs : ∀ i, wr.frozen? ⟨w.heap.size + 1, i, none⟩ = false
  bel : Below w.heap.size w wr
theorem SumLSt.below {w : World} {s : Nat} {W W' : World} (h : SumLSt w s W) (hb : Below W.heap.size W W') : SumLSt w s W' :=
  ⟨h.lr.below hb, fun i => (hb.frozen (p := ⟨w.heap.size, i, none⟩) h.lr.2).trans (h.fr i), h.ls.below hb, fun i => (hb.frozen (p := ⟨w.heap.size + 1, i, none⟩) h.ls.2).trans (h.fs i), below_trans h.bel hb⟩
theorem SumLSt.set8 {w : World} {s t : Nat} {W : World} (h : SumLSt w s W) : SumLSt w t (((((((((W.setCell ⟨w.heap.size + 1, 0, none⟩ (.int .u64 (dgl t 0 : Nat))).setCell ⟨w.heap.size + 1, 1, none⟩ (.int .u64 (dgl t 1 : Nat))).setCell ⟨w.heap.size + 1, 2, none⟩ (.int .u64 (dgl t 2 : Nat))).setCell ⟨w.heap.size + 1, 3, none⟩ (.int .u64 (dgl t 3 : Nat))).setCell ⟨w.heap.size + 1, 4, none⟩ (.int .u64 (dgl t 4 : Nat))).setCell ⟨w.heap.size + 1, 5, none⟩ (.int .u64 (dgl t 5 : Nat))).setCell ⟨w.heap.size + 1, 6, none⟩ (.int .u64 (dgl t 6 : Nat))).setCell ⟨w.heap.size + 1, 7, none⟩ (.int .u64 (dgl t 7 : Nat)))) :=
  ⟨lies_ne h.lr (by omega), fun i => by simpa [go_sem] using h.fr i, set8_same W _ (dgl t) (dgl s) h.ls, fun i => by simpa [go_sem] using h.fs i, below_set8 h.bel _ (by omega) _ _ _ _ _ _ _ _⟩

set_option maxHeartbeats 2000000 in
theorem prodSum_any (l : List Nat) (v : Value) (w : World) (hr : RdW w v l) (hl : ∀ i, dg l i < QQ) :
    Calls Try.prog 44 #[v] w fun e w' => e = .returned (.agg #[.int .u64 (dgl (sumN l l.length) 0 : Nat), .int .u64 (dgl (sumN l l.length) 1 : Nat), .int .u64 (dgl (sumN l l.length) 2 : Nat), .int .u64 (dgl (sumN l l.length) 3 : Nat), .int .u64 (dgl (sumN l l.length) 4 : Nat), .int .u64 (dgl (sumN l l.length) 5 : Nat), .int .u64 (dgl (sumN l l.length) 6 : Nat), .int .u64 (dgl (sumN l l.length) 7 : Nat)]) ∧ Below w.heap.size w w' := by
  obtain ⟨ao, ca, rfl, hca, hma, hra⟩ := hr
  unfold maxLen at hma
  have HRA := hide hra
  have HL := hide hl
  clear hra hl
  have HADD := hide (fun (s x : Nat) (hx : x < QQ) w => wideAdd_any (s % QQ) x (Nat.mod_lt _ (by omega)) hx w)
  have HS0 : Hid (SumLSt w 0 ((w.alloc (.cells #[.int .u64 0, .int .u64 0, .int .u64 0, .int .u64 0, .int .u64 0, .int .u64 0, .int .u64 0, .int .u64 0] 24)).alloc (.cells #[.int .u64 0, .int .u64 0, .int .u64 0, .int .u64 0, .int .u64 0, .int .u64 0, .int .u64 0, .int .u64 0] 24))) := by
    have h1 := (liesF_new w (fun _ => 0) 24).alloc (.cells #[.int .u64 0, .int .u64 0, .int .u64 0, .int .u64 0, .int .u64 0, .int .u64 0, .int .u64 0, .int .u64 0] 24)
    have h2 := liesF_new (w.alloc (.cells #[.int .u64 0, .int .u64 0, .int .u64 0, .int .u64 0, .int .u64 0, .int .u64 0, .int .u64 0, .int .u64 0] 24)) (fun _ => 0) 24
    rw [World.size_alloc] at h2
    exact ⟨h1, fun i => by simp [go_sem], by rw [dgl_z]; exact h2, fun i => by simp [go_sem], below_trans (below_allocs _ _) (below_allocs _ _)⟩
  generalize hn : l.length = n at *
  have HN := hide hn
  clear hn
  go_enter Try.func44, Try.ntmps44
  go_wp2
  go_loopw [8] (fun i wr => ∃ k : Nat, k ≤ n ∧ i = .int .i64 k ∧ Hid (SumLSt w (sumN l k) wr))
    (fun i _ => n - (intOf i).toNat)
  case atStart => exact ⟨0, by omega, rfl, HS0.out⟩
  case round =>
    clear HS0
    obtain ⟨k, hk, rfl, hst⟩ := hrel
    by_cases hlt : k < n
    · have hj : (k : Int) < (n : Int) := by omega
      rcases unhide HRA with hc | ⟨b, off, rfl, hbl, hcell⟩
      · omega
      · have hck : ∀ j, j < 8 → wr.cell? ⟨b, off + k * 8 + j, none⟩ = some (.int .u64 (dgl (dg l k) j : Nat)) := fun j hj => (hst.out.bel.cell (p := ⟨b, off + k * 8 + j, none⟩) hbl).trans (hcell k j hlt hj)
        have hck0 := hck 0 (by decide)
        rw [Nat.add_zero] at hck0
        have hcs := hst.out.ls.1
        have HX := hide (HL.out k)
        have HSUM := hide (show sumN l (k + 1) = sumN l k + dg l k from rfl)
        clear hcell
        generalize dg l k = x at *
        generalize sumN l k = s at *
        go_upto_region 5 with fail
        refine wp_gen (fun W => SumLSt w s W ∧ LiesF W wr.heap.size (dgl x)) ⟨hst.out.below (below_allocs _ _), liesF_new _ _ _⟩ ?_
        rintro W5 ⟨h5, h5x⟩
        have hcs := h5.ls.1
        have hcx := h5x.1
        have HS5 := hide h5
        clear h5 h5x hck hck0 hst
        have hadd := fun w => HADD.out s x HX.out w
        rw [w8_mod (Nat.mod_mod s QQ), w8_mod (show (s % QQ + x) % QQ = (s + x) % QQ by rw [Nat.mod_add_mod])] at hadd
        have HA2 := hide hadd
        clear hadd
        generalize decide (QQ ≤ s % QQ + x) = o at *
        generalize wr.heap.size = p5 at *
        go_wp2_with fail
        refine (HA2.out _).mono ?_
        rintro e w6 ⟨rfl, hb6⟩
        replace HS5 := hide (HS5.out.below hb6)
        have hcs := HS5.out.ls.1
        have hfs := HS5.out.fs
        have hls := HS5.out.ls.2
        clear hb6 hcx
        go_wp2
        go_roundw
        case rel => exact ⟨k + 1, by omega, by go_num, by rw [HSUM.out]; exact HS5.out.set8⟩
        case measure => simp [intOf]; omega
    · have hk2 : k = n := by omega
      subst hk2
      have hcs := hst.out.ls.1
      have hr := hst.out.lr.1
      have hrf := hst.out.fr
      have hl := hst.out.lr.2
      have HB := hide hst.out.bel
      clear hst
      have hj : ¬ (k : Int) < (k : Int) := by omega
      go_wp2
      exact bodyPost_ret (v := .agg #[.int .u64 (dgl (sumN l k) 0 : Nat), .int .u64 (dgl (sumN l k) 1 : Nat), .int .u64 (dgl (sumN l k) 2 : Nat), .int .u64 (dgl (sumN l k) 3 : Nat), .int .u64 (dgl (sumN l k) 4 : Nat), .int .u64 (dgl (sumN l k) 5 : Nat), .int .u64 (dgl (sumN l k) 6 : Nat), .int .u64 (dgl (sumN l k) 7 : Nat)]) (by simp [results, Try.results44, go_sem, hr, hl]) rfl ⟨rfl, below_set8 HB.out _ (by omega) _ _ _ _ _ _ _ _⟩

end Go.Proofs.Ytmbbhagjfgjhgaa

/- Picks whose constant stands first; slices of wides across stores. -/
set_option linter.unusedVariables false
set_option linter.unusedSimpArgs false
set_option maxRecDepth 8000
namespace Go.Proofs.Ytmbbhagjfgjhgaa
open Go.RowKit Plain

section
variable {ops : Array Oper} {a : Act} {T : List (Nat × SlotIs)} {C : World → Prop} {o : Oper}
theorem gRun_pickCF {looks : List Tmp} (c y d : Tmp) (x : Operand) (ho : o.op = .pick (.tmp c) x (.tmp y)) (hd : o.dst = some d) (hcm : c ∈ looks) (hym : y ∈ looks)
    (hT : ∀ v w, tbl a c T v w → v = .bool false) (h : ∀ v w, tbl a y T v w → tbl a d T v w) : gRun a T C o looks := by
  intro ρ w hC hc hf hL
  have hr : (execOp ρ o).run Try.prog w = .ok (.value (ρ (.tmp y))) w := by
    obtain ⟨dst, op, type, pos, after, guard⟩ := o
    simp only at ho; subst ho
    have := hT _ _ (hL c hcm)
    simp [execOp, this, go_sem]
  rw [hr]
  refine ⟨Below.refl _ _, ?_⟩
  rw [hd]
  exact h _ _ (hL y hym)
end

/-- A slice of wides of the call's own. -/
def SlotIs.wides (r : Nat) (l : List Nat) : SlotIs :=
  ⟨fun v w => ∃ b, v = .slice (some ⟨b, 0, none⟩) l.length l.length ∧ r < b ∧ b < w.heap.size ∧ ∀ i j, i < l.length → j < 8 → w.cell? ⟨b, i * 8 + j, none⟩ = some (.int .u64 (dgl (dg l i) j : Nat)),
   fun v w w' hb ⟨b, h1, h2, h3, h4⟩ => ⟨b, h1, h2, Nat.lt_of_lt_of_le h3 hb.size, fun i j hi hj => (hb.cell (p := ⟨b, i * 8 + j, none⟩) h3).trans (h4 i j hi hj)⟩⟩
theorem wides_rd {r : Nat} {l : List Nat} {v : Value} {w : World} (hl : l.length ≤ 1000) (h : (SlotIs.wides r l).R v w) : RdW w v l := by
  obtain ⟨b, h1, h2, h3, h4⟩ := h
  exact ⟨some ⟨b, 0, none⟩, l.length, h1, Nat.le_refl _, by unfold maxLen; omega, .inr ⟨b, 0, rfl, h3, fun i j hi hj => by rw [Nat.zero_add]; exact h4 i j hi hj⟩⟩
end Go.Proofs.Ytmbbhagjfgjhgaa

/- What is lost by a shift that is greater than all. -/
set_option linter.unusedVariables false
set_option linter.unusedSimpArgs false
set_option maxRecDepth 8000
namespace Go.Proofs.Ytmbbhagjfgjhgaa
open Go.RowKit Plain

end Go.Proofs.Ytmbbhagjfgjhgaa

