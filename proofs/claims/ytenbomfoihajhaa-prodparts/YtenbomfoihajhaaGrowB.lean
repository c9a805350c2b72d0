/- The steps of such a region, one law for each kind of operation. -/
import Derived.Test.YtenbomfoihajhaaGrow
import Derived.Test.YtenbomfoihajhaaWideP
set_option linter.unusedVariables false
set_option linter.unusedSimpArgs false
set_option maxRecDepth 8000
namespace Go.Proofs.Ytenbomfoihajhaa
open Go.RowKit Plain

section
variable {ops : Array Oper} {a : Act} {T : List (Nat × SlotIs)} {C : World → Prop} {o : Oper}

def gRun (a : Act) (T : List (Nat × SlotIs)) (C : World → Prop) (o : Oper) (looks : List Tmp) : Prop :=
  ∀ (ρ : Operand → Value) (w : World), C w → (∀ c, ρ (.const c) = c) → (∀ f, ρ (.func f) = .func (.func f) #[] #[]) → (∀ t ∈ looks, tbl a t T (ρ (.tmp t)) w) →
    gUpon Try.prog (gPost a T o w) ((execOp ρ o).run Try.prog w)

theorem gStep_run (hg : o.guard = none) (h : gRun a T C o (o.looksAt ops)) : gStep Try.prog ops a T C o := by
  intro A w hC hL
  have hw : Region.wanted o (yielded ops A.tmps) = true := by unfold Region.wanted; rw [hg]
  rw [if_pos hw]
  exact h A.eval w hC (fun _ => rfl) (fun _ => rfl) hL

theorem yielded_eval (A : Act) (g t : Nat) (b : Bool) (ht : (ops[g]?).bind (·.dst) = some t) (h : A.eval (.tmp t) = .bool b) : yielded ops A.tmps g = some b := by
  unfold yielded
  rw [ht]
  simp only [Act.eval] at h
  simp only [Option.bind_some]
  by_cases hlt : t < A.tmps.size
  · simp [hlt] at h ⊢
    rw [h]
  · simp [hlt, undef] at h

theorem gStep_on (g t : Nat) (b : Bool) (hg : o.guard = some (g, b)) (ht : (ops[g]?).bind (·.dst) = some t) (hm : t ∈ o.looksAt ops) (hT : ∀ v w, tbl a t T v w → v = .bool b) (h : gRun a T C o (o.looksAt ops)) : gStep Try.prog ops a T C o := by
  intro A w hC hL
  have hw : Region.wanted o (yielded ops A.tmps) = true := by
    unfold Region.wanted; rw [hg]
    simp only [yielded_eval A g t b ht (hT _ _ (hL t hm)), beq_self_eq_true]
  rw [if_pos hw]
  exact h A.eval w hC (fun _ => rfl) (fun _ => rfl) hL

theorem gStep_off (g t : Nat) (b : Bool) (hg : o.guard = some (g, b)) (ht : (ops[g]?).bind (·.dst) = some t) (hm : t ∈ o.looksAt ops) (hT : ∀ v w, tbl a t T v w → v = .bool (!b))
    (h : ∀ w, match o.dst with | some d => tbl a d T undef w | none => True) : gStep Try.prog ops a T C o := by
  intro A w hC hL
  have hw : Region.wanted o (yielded ops A.tmps) = false := by
    unfold Region.wanted; rw [hg]
    simp only [yielded_eval A g t _ ht (hT _ _ (hL t hm))]
    cases b <;> rfl
  rw [if_neg (by rw [hw]; decide)]
  exact ⟨Below.refl _ _, h w⟩

/-- Moves. -/
theorem gRun_move {looks : List Tmp} (x d : Tmp) (ho : o.op = .move (.tmp x) ∨ o.op = .assign (.tmp x)) (hd : o.dst = some d) (hx : x ∈ looks) (h : ∀ v w, tbl a x T v w → tbl a d T v w) : gRun a T C o looks := by
  intro ρ w hC hc hf hL
  have hr : (execOp ρ o).run Try.prog w = .ok (.value (ρ (.tmp x))) w := by
    obtain ⟨dst, op, type, pos, after, guard⟩ := o
    rcases ho with ho | ho <;> (simp only at ho; subst ho; rfl)
  rw [hr]
  refine ⟨Below.refl _ _, ?_⟩
  rw [hd]
  exact h _ _ (hL x hx)
theorem gRun_const {looks : List Tmp} (x : Value) (d : Tmp) (ho : o.op = .move (.const x) ∨ o.op = .assign (.const x)) (hd : o.dst = some d) (h : ∀ w, tbl a d T x w) : gRun a T C o looks := by
  intro ρ w hC hc hf hL
  have hr : (execOp ρ o).run Try.prog w = .ok (.value x) w := by
    obtain ⟨dst, op, type, pos, after, guard⟩ := o
    rw [← hc x]
    rcases ho with ho | ho <;> (simp only at ho; subst ho; rfl)
  rw [hr]
  refine ⟨Below.refl _ _, ?_⟩
  rw [hd]
  exact h _
/-- A pick between what was reckoned and a constant. -/
theorem gRun_pickT {looks : List Tmp} (c x d : Tmp) (y : Operand) (ho : o.op = .pick (.tmp c) (.tmp x) y) (hd : o.dst = some d) (hcm : c ∈ looks) (hxm : x ∈ looks)
    (hT : ∀ v w, tbl a c T v w → v = .bool true) (h : ∀ v w, tbl a x T v w → tbl a d T v w) : gRun a T C o looks := by
  intro ρ w hC hc hf hL
  have hr : (execOp ρ o).run Try.prog w = .ok (.value (ρ (.tmp x))) w := by
    obtain ⟨dst, op, type, pos, after, guard⟩ := o
    simp only at ho; subst ho
    have := hT _ _ (hL c hcm)
    simp [execOp, this, go_sem]
  rw [hr]
  refine ⟨Below.refl _ _, ?_⟩
  rw [hd]
  exact h _ _ (hL x hxm)
theorem gRun_pickF {looks : List Tmp} (c d : Tmp) (x : Operand) (y : Value) (ho : o.op = .pick (.tmp c) x (.const y)) (hd : o.dst = some d) (hcm : c ∈ looks)
    (hT : ∀ v w, tbl a c T v w → v = .bool false) (h : ∀ w, tbl a d T y w) : gRun a T C o looks := by
  intro ρ w hC hc hf hL
  have hr : (execOp ρ o).run Try.prog w = .ok (.value y) w := by
    obtain ⟨dst, op, type, pos, after, guard⟩ := o
    simp only at ho; subst ho
    have := hT _ _ (hL c hcm)
    simp [execOp, this, go_sem, hc]
  rw [hr]
  refine ⟨Below.refl _ _, ?_⟩
  rw [hd]
  exact h _
end

/-- A new block of the call's own that holds eight limbs. -/
def SlotIs.box (B : Nat) (f : Nat → Nat) : SlotIs :=
  ⟨fun v w => ∃ b, v = .pointer (some ⟨b, 0, none⟩) ∧ B ≤ b ∧ LiesF w b f ∧ ∀ i, w.frozen? ⟨b, i, none⟩ = false,
   fun v w w' hb ⟨b, h1, h2, h3, h4⟩ => ⟨b, h1, h2, h3.below hb, fun i => (hb.frozen (p := ⟨b, i, none⟩) h3.2).trans (h4 i)⟩⟩
def SlotIs.big (n K : Nat) : SlotIs := ⟨fun v w => BigV w v n K, fun v w w' hb h => h.below hb⟩

end Go.Proofs.Ytenbomfoihajhaa
