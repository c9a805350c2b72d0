/- Contracts and laws: GrowB, GrowS, GrowG, WideQ, WideR, WideS, WideU, ProdA, ProdB, ProdC, ProdD, ProdE, GrowP, WideV. -/
import Derived.Test.YteocibahclpegaaPartAC
import Derived.Test.YteocibahclpegaaPartAL
import Derived.Deep.DeepCutAuto
/- The steps of such a region, one law for each kind of operation. -/
set_option linter.unusedVariables false
set_option linter.unusedSimpArgs false
set_option maxRecDepth 8000
namespace Go.Proofs.Yteocibahclpegaa
open Go.RowKit Plain

section
variable {ops : Array Oper} {a : Act} {T : List (Nat × SlotIs)} {C : World → Prop} {o : Oper}

def gRun (a : Act) (T : List (Nat × SlotIs)) (C : World → Prop) (o : Oper) (looks : List Tmp) : Prop :=
  ∀ (ρ : Operand → Value) (w : World), C w → (∀ c, ρ (.const c) = c) → (∀ f, ρ (.func f) = .func (.func f) #[] #[]) → (∀ t ∈ looks, tbl a t T (ρ (.tmp t)) w) →
    gUpon Try.prog (gPost a T o w) ((execOp ρ o).run Try.prog w)

theorem gStep_run (hg : o.guard = none) (h : gRun a T C o (o.looksAt ops)) : gStep Try.prog ops a T C o := by
  intro A w hC hL
  have hw : Region.wanted o (yielded ops A.tmps) = true := by unfold Region.wanted; rw [hg]
  rw [if_pos hw]
  exact h A.eval w hC (fun _ => rfl) (fun _ => rfl) hL

theorem yielded_eval (A : Act) (g t : Nat) (b : Bool) (ht : (ops[g]?).bind (·.dst) = some t) (h : A.eval (.tmp t) = .bool b) : yielded ops A.tmps g = some b := by
  unfold yielded
  rw [ht]
  simp only [Act.eval] at h
  simp only [Option.bind_some]
  by_cases hlt : t < A.tmps.size
  · simp [hlt] at h ⊢
    rw [h]
  · simp [hlt, undef] at h

theorem gStep_on (g t : Nat) (b : Bool) (hg : o.guard = some (g, b)) (ht : (ops[g]?).bind (·.dst) = some t) (hm : t ∈ o.looksAt ops) (hT : ∀ v w, tbl a t T v w → v = .bool b) (h : gRun a T C o (o.looksAt ops)) : gStep Try.prog ops a T C o := by
  intro A w hC hL
  have hw : Region.wanted o (yielded ops A.tmps) = true := by
    unfold Region.wanted; rw [hg]
    simp only [yielded_eval A g t b ht (hT _ _ (hL t hm)), beq_self_eq_true]
  rw [if_pos hw]
  exact h A.eval w hC (fun _ => rfl) (fun _ => rfl) hL

theorem gStep_off (g t : Nat) (b : Bool) (hg : o.guard = some (g, b)) (ht : (ops[g]?).bind (·.dst) = some t) (hm : t ∈ o.looksAt ops) (hT : ∀ v w, tbl a t T v w → v = .bool (!b))
    (h : ∀ w, match o.dst with | some d => tbl a d T undef w | none => True) : gStep Try.prog ops a T C o := by
  intro A w hC hL
  have hw : Region.wanted o (yielded ops A.tmps) = false := by
    unfold Region.wanted; rw [hg]
    simp only [yielded_eval A g t _ ht (hT _ _ (hL t hm))]
    cases b <;> rfl
  rw [if_neg (by rw [hw]; decide)]
  exact ⟨Below.refl _ _, h w⟩

/-- Moves. -/
theorem gRun_move {looks : List Tmp} (x d : Tmp) (ho : o.op = .move (.tmp x) ∨ o.op = .assign (.tmp x)) (hd : o.dst = some d) (hx : x ∈ looks) (h : ∀ v w, tbl a x T v w → tbl a d T v w) : gRun a T C o looks := by
  intro ρ w hC hc hf hL
  have hr : (execOp ρ o).run Try.prog w = .ok (.value (ρ (.tmp x))) w := by
    obtain ⟨dst, op, type, pos, after, guard⟩ := o
    rcases ho with ho | ho <;> (simp only at ho; subst ho; rfl)
  rw [hr]
  refine ⟨Below.refl _ _, ?_⟩
  rw [hd]
  exact h _ _ (hL x hx)
theorem gRun_const {looks : List Tmp} (x : Value) (d : Tmp) (ho : o.op = .move (.const x) ∨ o.op = .assign (.const x)) (hd : o.dst = some d) (h : ∀ w, tbl a d T x w) : gRun a T C o looks := by
  intro ρ w hC hc hf hL
  have hr : (execOp ρ o).run Try.prog w = .ok (.value x) w := by
    obtain ⟨dst, op, type, pos, after, guard⟩ := o
    rw [← hc x]
    rcases ho with ho | ho <;> (simp only at ho; subst ho; rfl)
  rw [hr]
  refine ⟨Below.refl _ _, ?_⟩
  rw [hd]
  exact h _
/-- A pick between what was reckoned and a constant. -/
theorem gRun_pickT {looks : List Tmp} (c x d : Tmp) (y : Operand) (ho : o.op = .pick (.tmp c) (.tmp x) y) (hd : o.dst = some d) (hcm : c ∈ looks) (hxm : x ∈ looks)
    (hT : ∀ v w, tbl a c T v w → v = .bool true) (h : ∀ v w, tbl a x T v w → tbl a d T v w) : gRun a T C o looks := by
  intro ρ w hC hc hf hL
  have hr : (execOp ρ o).run Try.prog w = .ok (.value (ρ (.tmp x))) w := by
    obtain ⟨dst, op, type, pos, after, guard⟩ := o
    simp only at ho; subst ho
    have := hT _ _ (hL c hcm)
    simp [execOp, this, go_sem]
  rw [hr]
  refine ⟨Below.refl _ _, ?_⟩
  rw [hd]
  exact h _ _ (hL x hxm)
end

/-- A new block of the call's own that holds eight limbs. -/
def SlotIs.box (B : Nat) (f : Nat → Nat) : SlotIs :=
  ⟨fun v w => ∃ b, v = .pointer (some ⟨b, 0, none⟩) ∧ B ≤ b ∧ LiesF w b f ∧ ∀ i, w.frozen? ⟨b, i, none⟩ = false,
   fun v w w' hb ⟨b, h1, h2, h3, h4⟩ => ⟨b, h1, h2, h3.below hb, fun i => (hb.frozen (p := ⟨b, i, none⟩) h3.2).trans (h4 i)⟩⟩
def SlotIs.big (n K : Nat) : SlotIs := ⟨fun v w => BigV w v n K, fun v w w' hb h => h.below hb⟩

end Go.Proofs.Yteocibahclpegaa

/- Likewise, where some of the operations store into blocks that nobody else reads: the class of worlds tells which of them have been done. -/
set_option linter.unusedVariables false
set_option linter.unusedSimpArgs false
set_option maxRecDepth 8000
namespace Go.Proofs.Yteocibahclpegaa
open Go.RowKit Plain

/-- A table of plain values. -/
def vals (L : List (Nat × Value)) : List (Nat × SlotIs) := L.map fun p => (p.1, .val p.2)
theorem vals_still (a : Act) (t : Tmp) (v : Value) (w w' : World) : ∀ L : List (Nat × Value), tbl a t (vals L) v w → tbl a t (vals L) v w'
  | [] => fun h => h
  | p :: L => by
    unfold vals
    rw [List.map_cons]
    unfold tbl
    cases Nat.beq (p.1, SlotIs.val p.2).1 t
    · exact vals_still a t v w w' L
    · exact fun h => h

section
variable {P : Program} {ops : Array Oper} {n : Nat} {a : Act} {T : List (Nat × SlotIs)} {C : List Bool → World → Prop} {Q : Exit → Act → World → Prop} {ss : List Nat}

def gStore (P : Program) (ops : Array Oper) (a : Act) (T : List (Nat × SlotIs)) (C : List Bool → World → Prop) (ss : List Nat) (k : Nat) (o : Oper) : Prop :=
  o.dst = none ∧ o.guard = none ∧ ∀ (φ : Nat → Bool) (ρ : Operand → Value) (w : World), φ k = false → C (ss.map φ) w → (∀ c, ρ (.const c) = c) → (∀ t ∈ o.looksAt ops, tbl a t T (ρ (.tmp t)) w) →
    gUpon P (fun _ w' => C (ss.map fun i => φ i || Nat.beq i k) w') ((execOp ρ o).run P w)

def sSteps (P : Program) (ops : Array Oper) (a : Act) (T : List (Nat × SlotIs)) (C : List Bool → World → Prop) (ss : List Nat) : Nat → List Oper → Prop
  | _, [] => True
  | k, o :: rest => (if ss.contains k then gStore P ops a T C ss k o else ∀ bs, gStep P ops a T (C bs) o) ∧ sSteps P ops a T C ss (k + 1) rest
theorem sSt {k n : Nat} {o : Oper} {l : List Oper} (hk : ss.contains k = false) (h : ∀ bs, gStep P ops a T (C bs) o) (h2 : sSteps P ops a T C ss (k + 1) (l.take n)) : sSteps P ops a T C ss k ((o :: l).take (n + 1)) := by
  rw [List.take_succ_cons]; unfold sSteps; rw [hk]; exact ⟨h, h2⟩
theorem sStS {k n : Nat} {o : Oper} {l : List Oper} (hk : ss.contains k = true) (h : gStore P ops a T C ss k o) (h2 : sSteps P ops a T C ss (k + 1) (l.take n)) : sSteps P ops a T C ss k ((o :: l).take (n + 1)) := by
  rw [List.take_succ_cons]; unfold sSteps; rw [hk]; exact ⟨h, h2⟩
theorem sSt0 {k : Nat} {l : List Oper} : sSteps P ops a T C ss k (l.take 0) := trivial
theorem sSteps_get : ∀ (l : List Oper) (k i : Nat) (o : Oper), l[i]? = some o → sSteps P ops a T C ss k l → (if ss.contains (k + i) then gStore P ops a T C ss (k + i) o else ∀ bs, gStep P ops a T (C bs) o)
  | [], k, i, o, h, _ => by simp at h
  | x :: l, k, 0, o, h, hs => by simp at h; subst h; exact hs.1
  | x :: l, k, i + 1, o, h, hs => by
    have := sSteps_get l (k + 1) i o (by simpa using h) hs.2
    rw [show k + 1 + i = k + (i + 1) by omega] at this
    exact this

structure SInv (ops : Array Oper) (n : Nat) (a : Act) (T : List (Nat × SlotIs)) (C : List Bool → World → Prop) (ss : List Nat) (listed : Array Bool) (A : Act) (w : World) : Prop where
  c : C (ss.map fun i => listed.getD i false) w
  sz : A.tmps.size = a.tmps.size
  df : A.defers = a.defers
  kept : ∀ t, t ∉ T.map Prod.fst → A.tmps[t]? = a.tmps[t]?
  known : ∀ t, (∀ i oi, i < n → ops[i]? = some oi → listed.getD i true = false → oi.dst ≠ some t) → tbl a t T (A.eval (.tmp t)) w

theorem growS_any (hB : gOkB ops n (T.map Prod.fst) = true) (hss : ∀ i ∈ ss, i < n) (hCs : ∀ bs w w', C bs w → Below w.heap.size w w' → C bs w') (hTs : ∀ t v w w', tbl a t T v w → tbl a t T v w') (hsz : ∀ d ∈ T.map Prod.fst, d < a.tmps.size)
    (hst : sSteps P ops a T C ss 0 (ops.toList.take n)) (hf : ∀ w', C (ss.map fun _ => true) w' → gFin a T (fun a' => wpList P ops Q (ops.toList.drop n) a' w') w' (ops.toList.take n) a) :
    ∀ (f : Nat) (L : List Nat) (listed : Array Bool) (A : Act) (w : World), L.length = f → L.Nodup → (∀ i, i ∈ L ↔ (i < n ∧ listed.getD i true = false)) →
      HeadInv .any ops n listed → SInv ops n a T C ss listed A w → wpAny P .any ops Q (f + (ops.size - n)) listed A w := by
  simp only [gOkB, Bool.and_eq_true, decide_eq_true_eq] at hB
  obtain ⟨⟨⟨⟨⟨hn, hlook⟩, hd⟩, hnd⟩, htail⟩, hseq⟩ := hB
  have hlk : ∀ j o, j < n → ops[j]? = some o → (∀ t ∈ o.looksAt ops, ∀ i oi, i < n → ops[i]? = some oi → oi.dst = some t → ∃ e ∈ o.after, Region.binds .any e = true ∧ e.on = i) ∧ (∀ e ∈ o.after, Region.binds .any e = true → e.on < j) := by
    intro j o hj ho
    have h1 := List.all_eq_true.1 hlook j (List.mem_range.2 hj)
    simp only [ho, Bool.and_eq_true] at h1
    constructor
    · intro t ht i oi hi hoi hdi
      have h2 := List.all_eq_true.1 (List.all_eq_true.1 h1.1 t ht) i (List.mem_range.2 hi)
      simp only [hoi, hdi, Bool.or_eq_true] at h2
      rcases h2 with h2 | h2
      · have : Nat.beq t t = true := Nat.beq_refl t
        rw [this] at h2; cases h2
      · obtain ⟨oj, hoj, e, he, hb, hon⟩ := Region.waitsFor_spec h2
        have : oj = o := Option.some.inj (hoj.symm.trans ho)
        subst this
        exact ⟨e, he, hb, hon⟩
    · intro e he hb
      have h2 := (Array.all_eq_true_iff_forall_mem.1 h1.2) e he
      simp only [hb, Bool.not_true, Bool.false_or, decide_eq_true_eq] at h2
      exact h2
  have hdst : ∀ i o, i < n → ops[i]? = some o → ∀ d, o.dst = some d → d ∈ T.map Prod.fst := fun i o hi ho d hdo => by
    rw [← hd]
    refine List.mem_filterMap.2 ⟨o, ?_, hdo⟩
    rw [List.mem_iff_getElem?]
    exact ⟨i, by rw [List.getElem?_take_of_lt hi, Array.getElem?_toList]; exact ho⟩
  intro f
  induction f with
  | zero =>
    intro L listed A w hl hnd' hL hinv inv
    have hall : ∀ i, i < n → listed.getD i true = true := fun i hi => by
      cases hc : listed.getD i true
      · have := (hL i).2 ⟨hi, hc⟩
        rw [List.length_eq_zero_iff.1 hl] at this; cases this
      · rfl
    have hlist : listed = Array.replicate n true ++ Array.replicate (ops.size - n) false := by
      apply Array.ext_getElem?
      intro i
      by_cases h1 : i < n
      · have h2 := hall i h1
        have h3 : i < listed.size := by rw [hinv.size]; omega
        simp [h3] at h2
        rw [Array.getElem?_append_left (by simpa using h1)]
        simp [h1, h3, h2]
      · by_cases h4 : i < ops.size
        · have h2 := hinv.tail i (by omega) h4
          have h3 : i < listed.size := by rw [hinv.size]; omega
          simp [h3] at h2
          rw [Array.getElem?_append_right (by simp; omega), Array.getElem?_eq_getElem h3, Array.getElem?_replicate, if_pos (by simp; omega), h2]
        · rw [Array.getElem?_eq_none (by rw [hinv.size]; omega), Array.getElem?_eq_none (by simp; omega)]
    rw [Nat.zero_add]
    have hQ := gFin_use (a := a) (T := T) (w := w) _ A a inv.sz inv.df (by rw [hd]; exact hnd) (fun t ht => inv.kept t (by rw [← hd]; exact ht)) (fun d hdm => inv.known d (fun i oi hi hoi hli => by rw [hall i hi] at hli; cases hli)) (hf w (by rw [← List.map_congr_left (f := fun i => listed.getD i false) (g := fun _ => true) (fun i hi => by have h1 := hall i (hss i hi); have h3 : i < listed.size := by {rw [hinv.size]; have := hss i hi; omega}; simp [h3] at h1 ⊢; exact h1)]; exact inv.c))
    have := wpAny_of_seq (md := .any) (Q' := Q) (ops.toList.drop n) n listed A w (fun j => by simp [List.getElem?_drop]) (by rw [hlist]; simpa using hseq) hQ
    simpa using this
  | succ f ih =>
    intro L listed A w hl hnd' hL hinv inv
    have hne : ∃ i, i < n ∧ listed.getD i true = false := by
      cases L with
      | nil => cases hl
      | cons i L => exact ⟨i, (hL i).1 (by simp)⟩
    have hready : Region.ready .any ops listed ≠ [] := by
      intro hr
      obtain ⟨i, hi, hli⟩ := hne
      have key : ∀ m, ∀ j, j < m → j < n → listed.getD j true = true := by
        intro m
        induction m with
        | zero => intro j hj; omega
        | succ m ihm =>
          intro j hj hjn
          rcases Nat.lt_or_ge j m with h | h
          · exact ihm j h hjn
          · cases hc : listed.getD j true
            · have hjs : j < ops.size := by omega
              have : j ∈ Region.ready .any ops listed := mem_ready.2 ⟨hc, ops[j], by simp [hjs], fun e he hb => by
                have h1 := (hlk j ops[j] hjn (by simp [hjs])).2 e he hb
                have h2 := ihm e.on (by omega) (by omega)
                have h3 : e.on < listed.size := by rw [hinv.size]; omega
                simp [h3] at h2 ⊢; exact h2⟩
              rw [hr] at this; cases this
            · rfl
      rw [key (i + 1) i (by omega) hi] at hli; cases hli
    rw [show f + 1 + (ops.size - n) = (f + (ops.size - n)) + 1 by omega]
    refine ⟨fun h => absurd h hready, fun i hi => ?_⟩
    have hin : i < n := by
      rcases Nat.lt_or_ge i n with h | h
      · exact h
      · simp only [Bool.or_eq_true, Bool.and_eq_true, decide_eq_true_eq] at htail
        rcases htail with ht | ⟨⟨h1, h2⟩, h3⟩
        · obtain ⟨_, o, ho, _⟩ := mem_ready.1 hi
          have := (Array.getElem?_eq_some_iff.1 ho).1
          omega
        · obtain ⟨k, hk, hlk'⟩ := hne
          exact absurd hi (tail_waits h2 h3 h1 hinv _ k rfl hk hlk' i h)
    obtain ⟨hun, o, ho, hafter⟩ := mem_ready.1 hi
    have hlooks : ∀ t ∈ o.looksAt ops, tbl a t T (A.eval (.tmp t)) w := fun t ht => inv.known t (fun j oj hj hoj hlj hdj => by
      obtain ⟨e, he, hb, hon⟩ := (hlk i o hin ho).1 t ht j oj hj hoj hdj
      have h1 := hafter e he hb
      rw [hon, getD_both hlj] at h1; cases h1)
    have hnext : ∀ v w', (match o.dst with | some d => tbl a d T v w' | none => True) → C (ss.map fun j => (listed.setIfInBounds i true).getD j false) w' →
        wpAny P .any ops Q (f + (ops.size - n)) (listed.setIfInBounds i true) (A.put o.dst v) w' := fun v w' hp hc' => by
      refine ih (L.erase i) _ _ _ ?_ (hnd'.erase i) (fun j => ?_) (hinv.set hi hin) ⟨hc', by rw [put_sz]; exact inv.sz, by rw [put_df]; exact inv.df, fun t ht => ?_, fun t ht => ?_⟩
      · rw [List.length_erase_of_mem ((hL i).2 ⟨hin, hun⟩), hl]; rfl
      · rw [hnd'.mem_erase_iff, hL j]
        constructor
        · rintro ⟨h1, h2, h3⟩
          exact ⟨h2, by rw [getD_set_ne true (fun e => h1 e.symm)]; exact h3⟩
        · rintro ⟨h2, h3⟩
          by_cases hij : i = j
          · subst hij
            have : i < listed.size := by rw [hinv.size]; omega
            simp [this] at h3
          · rw [getD_set_ne true hij] at h3
            exact ⟨fun e => hij e.symm, h2, h3⟩
      · rw [← inv.kept t ht]
        cases hdo : o.dst with
        | none => rfl
        | some d =>
          have : d ≠ t := fun e => ht (e ▸ hdst i o hin ho d hdo)
          simp [Act.put, Array.getElem?_setIfInBounds_ne this]
      · by_cases hdt : o.dst = some t
        · rw [hdt] at hp
          have e : (A.put o.dst v).eval (.tmp t) = v := by
            rw [hdt]
            have : t < A.tmps.size := by rw [inv.sz]; exact hsz t (hdst i o hin ho t hdt)
            simp [Act.put, Act.eval, this]
          rw [e]; exact hp
        · have e : (A.put o.dst v).eval (.tmp t) = A.eval (.tmp t) := Act.eval_put (fun d h1 h2 => hdt (by rw [h1]; cases h2; rfl))
          rw [e]
          refine hTs t _ w w' (inv.known t fun j oj hj hoj hl => ?_)
          by_cases hij : i = j
          · subst hij
            have : oj = o := Option.some.inj (hoj.symm.trans ho)
            subst this; exact hdt
          · exact ht j oj hj hoj (by rw [getD_set_ne true hij]; exact hl)
    have hget := sSteps_get _ 0 i o (by rw [List.getElem?_take_of_lt hin, Array.getElem?_toList]; exact ho) hst
    rw [Nat.zero_add] at hget
    have hils : i < listed.size := by rw [hinv.size]; omega
    unfold wpOp
    simp only [ho]
    cases hsi : ss.contains i with
    | true =>
      rw [hsi] at hget
      obtain ⟨hd0, hg0, hgo⟩ := hget
      have hw : Region.wanted o (yielded ops A.tmps) = true := by unfold Region.wanted; rw [hg0]
      rw [if_pos hw]
      refine .inl (wp_of_gOp (fun v w' hk => hnext v w' (by rw [hd0]; trivial) ?_) (hgo (fun j => listed.getD j false) A.eval w (getD_both hun) inv.c (fun _ => rfl) hlooks))
      rw [← List.map_congr_left (f := fun j => listed.getD j false || Nat.beq j i) (g := fun j => (listed.setIfInBounds i true).getD j false) (fun j _ => ?_)]
      · exact hk
      · by_cases hij : i = j
        · subst hij
          have : Nat.beq i i = true := Nat.beq_refl i
          simp [hils, this]
        · rw [getD_set_ne false hij]
          have : Nat.beq j i = false := by
            cases hb : Nat.beq j i
            · rfl
            · exact absurd (Nat.eq_of_beq_eq_true hb).symm hij
          simp [this]
    | false =>
      rw [hsi] at hget
      have hstep := hget _ A w inv.c hlooks
      have hsame : (ss.map fun j => (listed.setIfInBounds i true).getD j false) = ss.map fun j => listed.getD j false := List.map_congr_left (fun j hj => by
        refine getD_set_ne false (fun e => ?_)
        subst e
        rw [List.contains_iff_mem.2 hj] at hsi
        cases hsi)
      have go : ∀ v w', gPost a T o w v w' → wpAny P .any ops Q (f + (ops.size - n)) (listed.setIfInBounds i true) (A.put o.dst v) w' := fun v w' hp =>
        hnext v w' hp.2 (by rw [hsame]; exact hCs _ _ _ inv.c hp.1)
      split
      · rename_i hw
        simp only [hw, if_true] at hstep
        exact .inl (wp_of_gOp go hstep)
      · rename_i hw
        simp only [hw] at hstep
        exact go _ _ hstep

theorem wp_region_store {id : Nat} {w : World} {l : List Oper} (n : Nat) (ss : List Nat) (LV : List (Nat × Value)) (C : List Bool → World → Prop) (hm : P.follows .mixedOrders = true) (hB : gOkB l.toArray n ((vals LV).map Prod.fst) = true)
    (hsz : ((vals LV).map Prod.fst).all (fun d => Nat.blt d a.tmps.size) = true) (hss : ss.all (fun i => Nat.blt i n) = true) (hC : C (ss.map fun _ => false) w.drew) (hCs : ∀ bs w w', C bs w → Below w.heap.size w w' → C bs w')
    (hst : sSteps P l.toArray a (vals LV) C ss 0 (l.take n)) (hf : ∀ w', C (ss.map fun _ => true) w' → gFin a (vals LV) (fun a' => wpList P l.toArray Q (l.drop n) a' w') w' (l.take n) a) :
    (Code.region id l.toArray true).wp P Q a w := by
  refine wp_region_any hm ?_
  have hn : n ≤ l.toArray.size := by
    simp only [gOkB, Bool.and_eq_true, decide_eq_true_eq] at hB
    exact hB.1.1.1.1.1
  have := growS_any (P := P) (ops := l.toArray) (n := n) (a := a) (T := vals LV) (C := C) (ss := ss) (Q := Q) hB (fun i hi => by have := List.all_eq_true.1 hss i hi; simpa [Nat.blt_eq] using this) hCs (fun t v w w' h => vals_still a t v w w' LV h) (fun d hd => by have := List.all_eq_true.1 hsz d hd; simpa [Nat.blt_eq] using this) (by simpa using hst) (by simpa using hf) n (List.range n) (Array.replicate l.toArray.size false) a w.drew (by simp) List.nodup_range
    (fun i => by
      rw [List.mem_range]
      constructor
      · intro h
        have : i < l.length := by have : n ≤ l.length := by simpa using hn
                                  omega
        exact ⟨h, by simp [this]⟩
      · exact fun h => h.1)
    ⟨by simp, fun j oj _ hl => (by rw [getD_replicate_false] at hl; cases hl), fun t _ ht => getD_in (by simpa using ht) (getD_replicate_false _ _)⟩
    ⟨by rw [List.map_congr_left (g := fun _ => false) (fun i _ => getD_replicate_false _ _)]; exact hC, rfl, rfl, fun _ _ => rfl, fun t ht => tbl_out a t _ _ rfl (vals LV) (fun hmem => by
      have hd : ((l.toArray.toList.take n).filterMap (·.dst)) = (vals LV).map Prod.fst := by
        simp only [gOkB, Bool.and_eq_true, decide_eq_true_eq] at hB
        exact hB.1.1.1.2
      rw [← hd] at hmem
      obtain ⟨o, ho, hdo⟩ := List.mem_filterMap.1 hmem
      obtain ⟨i, hi⟩ := List.mem_iff_getElem?.1 ho
      have hin : i < n := by
        rcases Nat.lt_or_ge i n with h | h
        · exact h
        · rw [List.getElem?_eq_none (by simp; omega)] at hi; cases hi
      rw [List.getElem?_take_of_lt hin] at hi
      have hil : i < l.length := by
        rcases Nat.lt_or_ge i l.length with h | h
        · exact h
        · rw [List.getElem?_eq_none h] at hi; cases hi
      exact ht i o hin (by simpa using hi) (by simp [hil]) hdo)⟩
  rwa [show n + (l.toArray.size - n) = l.toArray.size by omega] at this
end
end Go.Proofs.Yteocibahclpegaa

/- Likewise, where a table of relations stands through the stores. -/
set_option linter.unusedVariables false
set_option linter.unusedSimpArgs false
set_option maxRecDepth 8000
namespace Go.Proofs.Yteocibahclpegaa
open Go.RowKit Plain

theorem tbl_keeps (a : Act) (t : Tmp) (v : Value) (w w' : World) : ∀ T : List (Nat × SlotIs), (∀ p ∈ T, p.2.R v w → p.2.R v w') → tbl a t T v w → tbl a t T v w'
  | [], _ => fun h => h
  | p :: T, h => by
    unfold tbl
    cases Nat.beq p.1 t
    · exact tbl_keeps a t v w w' T (fun q hq => h q (List.mem_cons_of_mem _ hq))
    · exact h p (List.mem_cons_self ..)

section
variable {P : Program} {ops : Array Oper} {n : Nat} {a : Act} {T : List (Nat × SlotIs)} {C : List Bool → World → Prop} {G : World → World → Prop} {Q : Exit → Act → World → Prop} {ss : List Nat}

def hStore (P : Program) (ops : Array Oper) (a : Act) (T : List (Nat × SlotIs)) (C : List Bool → World → Prop) (G : World → World → Prop) (ss : List Nat) (k : Nat) (o : Oper) : Prop :=
  o.dst = none ∧ o.guard = none ∧ ∀ (φ : Nat → Bool) (ρ : Operand → Value) (w : World), φ k = false → C (ss.map φ) w → (∀ c, ρ (.const c) = c) → (∀ t ∈ o.looksAt ops, tbl a t T (ρ (.tmp t)) w) →
    gUpon P (fun _ w' => C (ss.map fun i => φ i || Nat.beq i k) w' ∧ G w w') ((execOp ρ o).run P w)

def hSteps (P : Program) (ops : Array Oper) (a : Act) (T : List (Nat × SlotIs)) (C : List Bool → World → Prop) (G : World → World → Prop) (ss : List Nat) : Nat → List Oper → Prop
  | _, [] => True
  | k, o :: rest => (if ss.contains k then hStore P ops a T C G ss k o else ∀ bs, gStep P ops a T (C bs) o) ∧ hSteps P ops a T C G ss (k + 1) rest
theorem hSt {k n : Nat} {o : Oper} {l : List Oper} (hk : ss.contains k = false) (h : ∀ bs, gStep P ops a T (C bs) o) (h2 : hSteps P ops a T C G ss (k + 1) (l.take n)) : hSteps P ops a T C G ss k ((o :: l).take (n + 1)) := by
  rw [List.take_succ_cons]; unfold hSteps; rw [hk]; exact ⟨h, h2⟩
theorem hStS {k n : Nat} {o : Oper} {l : List Oper} (hk : ss.contains k = true) (h : hStore P ops a T C G ss k o) (h2 : hSteps P ops a T C G ss (k + 1) (l.take n)) : hSteps P ops a T C G ss k ((o :: l).take (n + 1)) := by
  rw [List.take_succ_cons]; unfold hSteps; rw [hk]; exact ⟨h, h2⟩
theorem hSt0 {k : Nat} {l : List Oper} : hSteps P ops a T C G ss k (l.take 0) := trivial
theorem hSteps_get : ∀ (l : List Oper) (k i : Nat) (o : Oper), l[i]? = some o → hSteps P ops a T C G ss k l → (if ss.contains (k + i) then hStore P ops a T C G ss (k + i) o else ∀ bs, gStep P ops a T (C bs) o)
  | [], k, i, o, h, _ => by simp at h
  | x :: l, k, 0, o, h, hs => by simp at h; subst h; exact hs.1
  | x :: l, k, i + 1, o, h, hs => by
    have := hSteps_get l (k + 1) i o (by simpa using h) hs.2
    rw [show k + 1 + i = k + (i + 1) by omega] at this
    exact this

structure HInv (ops : Array Oper) (n : Nat) (a : Act) (T : List (Nat × SlotIs)) (C : List Bool → World → Prop) (ss : List Nat) (listed : Array Bool) (A : Act) (w : World) : Prop where
  c : C (ss.map fun i => listed.getD i false) w
  sz : A.tmps.size = a.tmps.size
  df : A.defers = a.defers
  kept : ∀ t, t ∉ T.map Prod.fst → A.tmps[t]? = a.tmps[t]?
  known : ∀ t, (∀ i oi, i < n → ops[i]? = some oi → listed.getD i true = false → oi.dst ≠ some t) → tbl a t T (A.eval (.tmp t)) w

theorem growG_any (hB : gOkB ops n (T.map Prod.fst) = true) (hss : ∀ i ∈ ss, i < n) (hCs : ∀ bs w w', C bs w → Below w.heap.size w w' → C bs w') (hTs : ∀ t v w w', G w w' → tbl a t T v w → tbl a t T v w') (hsz : ∀ d ∈ T.map Prod.fst, d < a.tmps.size)
    (hst : hSteps P ops a T C G ss 0 (ops.toList.take n)) (hf : ∀ w', C (ss.map fun _ => true) w' → gFin a T (fun a' => wpList P ops Q (ops.toList.drop n) a' w') w' (ops.toList.take n) a) :
    ∀ (f : Nat) (L : List Nat) (listed : Array Bool) (A : Act) (w : World), L.length = f → L.Nodup → (∀ i, i ∈ L ↔ (i < n ∧ listed.getD i true = false)) →
      HeadInv .any ops n listed → HInv ops n a T C ss listed A w → wpAny P .any ops Q (f + (ops.size - n)) listed A w := by
  simp only [gOkB, Bool.and_eq_true, decide_eq_true_eq] at hB
  obtain ⟨⟨⟨⟨⟨hn, hlook⟩, hd⟩, hnd⟩, htail⟩, hseq⟩ := hB
  have hlk : ∀ j o, j < n → ops[j]? = some o → (∀ t ∈ o.looksAt ops, ∀ i oi, i < n → ops[i]? = some oi → oi.dst = some t → ∃ e ∈ o.after, Region.binds .any e = true ∧ e.on = i) ∧ (∀ e ∈ o.after, Region.binds .any e = true → e.on < j) := by
    intro j o hj ho
    have h1 := List.all_eq_true.1 hlook j (List.mem_range.2 hj)
    simp only [ho, Bool.and_eq_true] at h1
    constructor
    · intro t ht i oi hi hoi hdi
      have h2 := List.all_eq_true.1 (List.all_eq_true.1 h1.1 t ht) i (List.mem_range.2 hi)
      simp only [hoi, hdi, Bool.or_eq_true] at h2
      rcases h2 with h2 | h2
      · have : Nat.beq t t = true := Nat.beq_refl t
        rw [this] at h2; cases h2
      · obtain ⟨oj, hoj, e, he, hb, hon⟩ := Region.waitsFor_spec h2
        have : oj = o := Option.some.inj (hoj.symm.trans ho)
        subst this
        exact ⟨e, he, hb, hon⟩
    · intro e he hb
      have h2 := (Array.all_eq_true_iff_forall_mem.1 h1.2) e he
      simp only [hb, Bool.not_true, Bool.false_or, decide_eq_true_eq] at h2
      exact h2
  have hdst : ∀ i o, i < n → ops[i]? = some o → ∀ d, o.dst = some d → d ∈ T.map Prod.fst := fun i o hi ho d hdo => by
    rw [← hd]
    refine List.mem_filterMap.2 ⟨o, ?_, hdo⟩
    rw [List.mem_iff_getElem?]
    exact ⟨i, by rw [List.getElem?_take_of_lt hi, Array.getElem?_toList]; exact ho⟩
  intro f
  induction f with
  | zero =>
    intro L listed A w hl hnd' hL hinv inv
    have hall : ∀ i, i < n → listed.getD i true = true := fun i hi => by
      cases hc : listed.getD i true
      · have := (hL i).2 ⟨hi, hc⟩
        rw [List.length_eq_zero_iff.1 hl] at this; cases this
      · rfl
    have hlist : listed = Array.replicate n true ++ Array.replicate (ops.size - n) false := by
      apply Array.ext_getElem?
      intro i
      by_cases h1 : i < n
      · have h2 := hall i h1
        have h3 : i < listed.size := by rw [hinv.size]; omega
        simp [h3] at h2
        rw [Array.getElem?_append_left (by simpa using h1)]
        simp [h1, h3, h2]
      · by_cases h4 : i < ops.size
        · have h2 := hinv.tail i (by omega) h4
          have h3 : i < listed.size := by rw [hinv.size]; omega
          simp [h3] at h2
          rw [Array.getElem?_append_right (by simp; omega), Array.getElem?_eq_getElem h3, Array.getElem?_replicate, if_pos (by simp; omega), h2]
        · rw [Array.getElem?_eq_none (by rw [hinv.size]; omega), Array.getElem?_eq_none (by simp; omega)]
    rw [Nat.zero_add]
    have hQ := gFin_use (a := a) (T := T) (w := w) _ A a inv.sz inv.df (by rw [hd]; exact hnd) (fun t ht => inv.kept t (by rw [← hd]; exact ht)) (fun d hdm => inv.known d (fun i oi hi hoi hli => by rw [hall i hi] at hli; cases hli)) (hf w (by rw [← List.map_congr_left (f := fun i => listed.getD i false) (g := fun _ => true) (fun i hi => by have h1 := hall i (hss i hi); have h3 : i < listed.size := by {rw [hinv.size]; have := hss i hi; omega}; simp [h3] at h1 ⊢; exact h1)]; exact inv.c))
    have := wpAny_of_seq (md := .any) (Q' := Q) (ops.toList.drop n) n listed A w (fun j => by simp [List.getElem?_drop]) (by rw [hlist]; simpa using hseq) hQ
    simpa using this
  | succ f ih =>
    intro L listed A w hl hnd' hL hinv inv
    have hne : ∃ i, i < n ∧ listed.getD i true = false := by
      cases L with
      | nil => cases hl
      | cons i L => exact ⟨i, (hL i).1 (by simp)⟩
    have hready : Region.ready .any ops listed ≠ [] := by
      intro hr
      obtain ⟨i, hi, hli⟩ := hne
      have key : ∀ m, ∀ j, j < m → j < n → listed.getD j true = true := by
        intro m
        induction m with
        | zero => intro j hj; omega
        | succ m ihm =>
          intro j hj hjn
          rcases Nat.lt_or_ge j m with h | h
          · exact ihm j h hjn
          · cases hc : listed.getD j true
            · have hjs : j < ops.size := by omega
              have : j ∈ Region.ready .any ops listed := mem_ready.2 ⟨hc, ops[j], by simp [hjs], fun e he hb => by
                have h1 := (hlk j ops[j] hjn (by simp [hjs])).2 e he hb
                have h2 := ihm e.on (by omega) (by omega)
                have h3 : e.on < listed.size := by rw [hinv.size]; omega
                simp [h3] at h2 ⊢; exact h2⟩
              rw [hr] at this; cases this
            · rfl
      rw [key (i + 1) i (by omega) hi] at hli; cases hli
    rw [show f + 1 + (ops.size - n) = (f + (ops.size - n)) + 1 by omega]
    refine ⟨fun h => absurd h hready, fun i hi => ?_⟩
    have hin : i < n := by
      rcases Nat.lt_or_ge i n with h | h
      · exact h
      · simp only [Bool.or_eq_true, Bool.and_eq_true, decide_eq_true_eq] at htail
        rcases htail with ht | ⟨⟨h1, h2⟩, h3⟩
        · obtain ⟨_, o, ho, _⟩ := mem_ready.1 hi
          have := (Array.getElem?_eq_some_iff.1 ho).1
          omega
        · obtain ⟨k, hk, hlk'⟩ := hne
          exact absurd hi (tail_waits h2 h3 h1 hinv _ k rfl hk hlk' i h)
    obtain ⟨hun, o, ho, hafter⟩ := mem_ready.1 hi
    have hlooks : ∀ t ∈ o.looksAt ops, tbl a t T (A.eval (.tmp t)) w := fun t ht => inv.known t (fun j oj hj hoj hlj hdj => by
      obtain ⟨e, he, hb, hon⟩ := (hlk i o hin ho).1 t ht j oj hj hoj hdj
      have h1 := hafter e he hb
      rw [hon, getD_both hlj] at h1; cases h1)
    have hnext : ∀ v w', (∀ t x, tbl a t T x w → tbl a t T x w') → (match o.dst with | some d => tbl a d T v w' | none => True) → C (ss.map fun j => (listed.setIfInBounds i true).getD j false) w' →
        wpAny P .any ops Q (f + (ops.size - n)) (listed.setIfInBounds i true) (A.put o.dst v) w' := fun v w' hmon hp hc' => by
      refine ih (L.erase i) _ _ _ ?_ (hnd'.erase i) (fun j => ?_) (hinv.set hi hin) ⟨hc', by rw [put_sz]; exact inv.sz, by rw [put_df]; exact inv.df, fun t ht => ?_, fun t ht => ?_⟩
      · rw [List.length_erase_of_mem ((hL i).2 ⟨hin, hun⟩), hl]; rfl
      · rw [hnd'.mem_erase_iff, hL j]
        constructor
        · rintro ⟨h1, h2, h3⟩
          exact ⟨h2, by rw [getD_set_ne true (fun e => h1 e.symm)]; exact h3⟩
        · rintro ⟨h2, h3⟩
          by_cases hij : i = j
          · subst hij
            have : i < listed.size := by rw [hinv.size]; omega
            simp [this] at h3
          · rw [getD_set_ne true hij] at h3
            exact ⟨fun e => hij e.symm, h2, h3⟩
      · rw [← inv.kept t ht]
        cases hdo : o.dst with
        | none => rfl
        | some d =>
          have : d ≠ t := fun e => ht (e ▸ hdst i o hin ho d hdo)
          simp [Act.put, Array.getElem?_setIfInBounds_ne this]
      · by_cases hdt : o.dst = some t
        · rw [hdt] at hp
          have e : (A.put o.dst v).eval (.tmp t) = v := by
            rw [hdt]
            have : t < A.tmps.size := by rw [inv.sz]; exact hsz t (hdst i o hin ho t hdt)
            simp [Act.put, Act.eval, this]
          rw [e]; exact hp
        · have e : (A.put o.dst v).eval (.tmp t) = A.eval (.tmp t) := Act.eval_put (fun d h1 h2 => hdt (by rw [h1]; cases h2; rfl))
          rw [e]
          refine hmon t _ (inv.known t fun j oj hj hoj hl => ?_)
          by_cases hij : i = j
          · subst hij
            have : oj = o := Option.some.inj (hoj.symm.trans ho)
            subst this; exact hdt
          · exact ht j oj hj hoj (by rw [getD_set_ne true hij]; exact hl)
    have hget := hSteps_get _ 0 i o (by rw [List.getElem?_take_of_lt hin, Array.getElem?_toList]; exact ho) hst
    rw [Nat.zero_add] at hget
    have hils : i < listed.size := by rw [hinv.size]; omega
    unfold wpOp
    simp only [ho]
    cases hsi : ss.contains i with
    | true =>
      rw [hsi] at hget
      obtain ⟨hd0, hg0, hgo⟩ := hget
      have hw : Region.wanted o (yielded ops A.tmps) = true := by unfold Region.wanted; rw [hg0]
      rw [if_pos hw]
      refine .inl (wp_of_gOp (fun v w' hk => hnext v w' (fun t x => hTs t x w w' hk.2) (by rw [hd0]; trivial) ?_) (hgo (fun j => listed.getD j false) A.eval w (getD_both hun) inv.c (fun _ => rfl) hlooks))
      rw [← List.map_congr_left (f := fun j => listed.getD j false || Nat.beq j i) (g := fun j => (listed.setIfInBounds i true).getD j false) (fun j _ => ?_)]
      · exact hk.1
      · by_cases hij : i = j
        · subst hij
          have : Nat.beq i i = true := Nat.beq_refl i
          simp [hils, this]
        · rw [getD_set_ne false hij]
          have : Nat.beq j i = false := by
            cases hb : Nat.beq j i
            · rfl
            · exact absurd (Nat.eq_of_beq_eq_true hb).symm hij
          simp [this]
    | false =>
      rw [hsi] at hget
      have hstep := hget _ A w inv.c hlooks
      have hsame : (ss.map fun j => (listed.setIfInBounds i true).getD j false) = ss.map fun j => listed.getD j false := List.map_congr_left (fun j hj => by
        refine getD_set_ne false (fun e => ?_)
        subst e
        rw [List.contains_iff_mem.2 hj] at hsi
        cases hsi)
      have go : ∀ v w', gPost a T o w v w' → wpAny P .any ops Q (f + (ops.size - n)) (listed.setIfInBounds i true) (A.put o.dst v) w' := fun v w' hp =>
        hnext v w' (fun t x => tbl_mono a t x w w' hp.1 T) hp.2 (by rw [hsame]; exact hCs _ _ _ inv.c hp.1)
      split
      · rename_i hw
        simp only [hw, if_true] at hstep
        exact .inl (wp_of_gOp go hstep)
      · rename_i hw
        simp only [hw] at hstep
        exact go _ _ hstep

theorem wp_region_storeG {id : Nat} {w : World} {l : List Oper} (n : Nat) (ss : List Nat) (T : List (Nat × SlotIs)) (C : List Bool → World → Prop) (G : World → World → Prop) (hm : P.follows .mixedOrders = true) (hB : gOkB l.toArray n (T.map Prod.fst) = true)
    (hsz : (T.map Prod.fst).all (fun d => Nat.blt d a.tmps.size) = true) (hss : ss.all (fun i => Nat.blt i n) = true) (hC : C (ss.map fun _ => false) w.drew) (hCs : ∀ bs w w', C bs w → Below w.heap.size w w' → C bs w')
    (hTs : ∀ t v w w', G w w' → tbl a t T v w → tbl a t T v w')
    (hst : hSteps P l.toArray a T C G ss 0 (l.take n)) (hf : ∀ w', C (ss.map fun _ => true) w' → gFin a T (fun a' => wpList P l.toArray Q (l.drop n) a' w') w' (l.take n) a) :
    (Code.region id l.toArray true).wp P Q a w := by
  refine wp_region_any hm ?_
  have hn : n ≤ l.toArray.size := by
    simp only [gOkB, Bool.and_eq_true, decide_eq_true_eq] at hB
    exact hB.1.1.1.1.1
  have := growG_any (P := P) (ops := l.toArray) (n := n) (a := a) (T := T) (C := C) (G := G) (ss := ss) (Q := Q) hB (fun i hi => by have := List.all_eq_true.1 hss i hi; simpa [Nat.blt_eq] using this) hCs hTs (fun d hd => by have := List.all_eq_true.1 hsz d hd; simpa [Nat.blt_eq] using this) (by simpa using hst) (by simpa using hf) n (List.range n) (Array.replicate l.toArray.size false) a w.drew (by simp) List.nodup_range
    (fun i => by
      rw [List.mem_range]
      constructor
      · intro h
        have : i < l.length := by have : n ≤ l.length := by simpa using hn
                                  omega
        exact ⟨h, by simp [this]⟩
      · exact fun h => h.1)
    ⟨by simp, fun j oj _ hl => (by rw [getD_replicate_false] at hl; cases hl), fun t _ ht => getD_in (by simpa using ht) (getD_replicate_false _ _)⟩
    ⟨by rw [List.map_congr_left (g := fun _ => false) (fun i _ => getD_replicate_false _ _)]; exact hC, rfl, rfl, fun _ _ => rfl, fun t ht => tbl_out a t _ _ rfl T (fun hmem => by
      have hd : ((l.toArray.toList.take n).filterMap (·.dst)) = T.map Prod.fst := by
        simp only [gOkB, Bool.and_eq_true, decide_eq_true_eq] at hB
        exact hB.1.1.1.2
      rw [← hd] at hmem
      obtain ⟨o, ho, hdo⟩ := List.mem_filterMap.1 hmem
      obtain ⟨i, hi⟩ := List.mem_iff_getElem?.1 ho
      have hin : i < n := by
        rcases Nat.lt_or_ge i n with h | h
        · exact h
        · rw [List.getElem?_eq_none (by simp; omega)] at hi; cases hi
      rw [List.getElem?_take_of_lt hin] at hi
      have hil : i < l.length := by
        rcases Nat.lt_or_ge i l.length with h | h
        · exact h
        · rw [List.getElem?_eq_none h] at hi; cases hi
      exact ht i o hin (by simpa using hi) (by simp [hil]) hdo)⟩
  rwa [show n + (l.toArray.size - n) = l.toArray.size by omega] at this
end
end Go.Proofs.Yteocibahclpegaa

/- Contracts: wide.Shr. -/
set_option linter.unusedVariables false
set_option linter.unusedSimpArgs false
set_option maxRecDepth 8000
namespace Go.Proofs.Yteocibahclpegaa
open Go.RowKit Plain

structure ShrSt (B : Nat) (w : World) (fa fr : Nat → Nat) (W : World) : Prop where
  la : LiesF W B fa
  lr : LiesF W (B + 1) fr
  fr : ∀ i, W.frozen? ⟨B + 1, i, none⟩ = false
  bel : Below B w W
theorem ShrSt.below {B : Nat} {w : World} {fa fr : Nat → Nat} {W W' : World} (h : ShrSt B w fa fr W) (hb : Below W.heap.size W W') : ShrSt B w fa fr W' :=
  ⟨h.la.below hb, h.lr.below hb, fun i => (hb.frozen (p := ⟨B + 1, i, none⟩) h.lr.2).trans (h.fr i), h.bel.trans (hb.mono (Nat.le_of_lt h.la.2))⟩

theorem lies_other {W : World} {b B : Nat} {f : Nat → Nat} {x0 x1 x2 x3 x4 x5 x6 x7 : Value} (h : LiesF W b f) (hne : B < b) : LiesF ((((((((W.setCell ⟨B, 0, none⟩ x0).setCell ⟨B, 1, none⟩ x1).setCell ⟨B, 2, none⟩ x2).setCell ⟨B, 3, none⟩ x3).setCell ⟨B, 4, none⟩ x4).setCell ⟨B, 5, none⟩ x5).setCell ⟨B, 6, none⟩ x6).setCell ⟨B, 7, none⟩ x7) b f := by
  refine ⟨fun i hi => ?_, by simpa using h.2⟩
  have := h.1 i hi
  have hb : b ≠ B := by omega
  simp [go_sem, this, hb]
theorem ShrSt.set8 {B : Nat} {w : World} {fa fr fq : Nat → Nat} {W : World} (h : ShrSt B w fa fr W) : ShrSt B w fa fq ((((((((W.setCell ⟨B + 1, 0, none⟩ (.int .u64 (fq 0 : Nat))).setCell ⟨B + 1, 1, none⟩ (.int .u64 (fq 1 : Nat))).setCell ⟨B + 1, 2, none⟩ (.int .u64 (fq 2 : Nat))).setCell ⟨B + 1, 3, none⟩ (.int .u64 (fq 3 : Nat))).setCell ⟨B + 1, 4, none⟩ (.int .u64 (fq 4 : Nat))).setCell ⟨B + 1, 5, none⟩ (.int .u64 (fq 5 : Nat))).setCell ⟨B + 1, 6, none⟩ (.int .u64 (fq 6 : Nat))).setCell ⟨B + 1, 7, none⟩ (.int .u64 (fq 7 : Nat))) := by
  have hs8 := below_set8 (Below.refl (B + 1) W) (B + 1) (Nat.le_refl _) (.int .u64 (fq 0 : Nat)) (.int .u64 (fq 1 : Nat)) (.int .u64 (fq 2 : Nat)) (.int .u64 (fq 3 : Nat)) (.int .u64 (fq 4 : Nat)) (.int .u64 (fq 5 : Nat)) (.int .u64 (fq 6 : Nat)) (.int .u64 (fq 7 : Nat))
  exact ⟨lies_box h.la hs8 (by omega), set8_same W (B + 1) fq fr h.lr, fun i => by simpa [go_sem] using h.fr i, h.bel.trans (hs8.mono (by omega))⟩

set_option maxHeartbeats 4000000 in
theorem wideShr_walk (fa fq fu : Nat → Nat) (n r : Int) (t : Bool) (w : World)
    (HR : Hid (∀ w, Calls Try.prog 98 #[.int .i64 n] w fun e w' => e = .returned (.int .i64 r) ∧ w' = w))
    (hneg : IntKind.i64.wrap (-r) = -r)
    (HM : Hid (∀ w, Calls Try.prog 97 #[.agg #[.int .u64 (fa 0 : Nat), .int .u64 (fa 1 : Nat), .int .u64 (fa 2 : Nat), .int .u64 (fa 3 : Nat), .int .u64 (fa 4 : Nat), .int .u64 (fa 5 : Nat), .int .u64 (fa 6 : Nat), .int .u64 (fa 7 : Nat)], .int .i64 (-r), .int .u64 0] w fun e w' => e = .returned (.agg #[.int .u64 (fq 0 : Nat), .int .u64 (fq 1 : Nat), .int .u64 (fq 2 : Nat), .int .u64 (fq 3 : Nat), .int .u64 (fq 4 : Nat), .int .u64 (fq 5 : Nat), .int .u64 (fq 6 : Nat), .int .u64 (fq 7 : Nat)]) ∧ Below w.heap.size w w'))
    (HS : Hid (∀ w, Calls Try.prog 78 #[.agg #[.int .u64 (fq 0 : Nat), .int .u64 (fq 1 : Nat), .int .u64 (fq 2 : Nat), .int .u64 (fq 3 : Nat), .int .u64 (fq 4 : Nat), .int .u64 (fq 5 : Nat), .int .u64 (fq 6 : Nat), .int .u64 (fq 7 : Nat)], .int .i64 n] w fun e w' => e = .returned (.agg #[.int .u64 (fu 0 : Nat), .int .u64 (fu 1 : Nat), .int .u64 (fu 2 : Nat), .int .u64 (fu 3 : Nat), .int .u64 (fu 4 : Nat), .int .u64 (fu 5 : Nat), .int .u64 (fu 6 : Nat), .int .u64 (fu 7 : Nat)]) ∧ Below w.heap.size w w'))
    (heq : ∀ w, (Op.equalIn 10000 32 (.agg #[.int .u64 (fu 0 : Nat), .int .u64 (fu 1 : Nat), .int .u64 (fu 2 : Nat), .int .u64 (fu 3 : Nat), .int .u64 (fu 4 : Nat), .int .u64 (fu 5 : Nat), .int .u64 (fu 6 : Nat), .int .u64 (fu 7 : Nat)]) (.agg #[.int .u64 (fa 0 : Nat), .int .u64 (fa 1 : Nat), .int .u64 (fa 2 : Nat), .int .u64 (fa 3 : Nat), .int .u64 (fa 4 : Nat), .int .u64 (fa 5 : Nat), .int .u64 (fa 6 : Nat), .int .u64 (fa 7 : Nat)])).run Try.prog w = .ok t w) :
    Calls Try.prog 75 #[.agg #[.int .u64 (fa 0 : Nat), .int .u64 (fa 1 : Nat), .int .u64 (fa 2 : Nat), .int .u64 (fa 3 : Nat), .int .u64 (fa 4 : Nat), .int .u64 (fa 5 : Nat), .int .u64 (fa 6 : Nat), .int .u64 (fa 7 : Nat)], .int .i64 n] w fun e w' => e = .returned (.tuple #[.agg #[.int .u64 (fq 0 : Nat), .int .u64 (fq 1 : Nat), .int .u64 (fq 2 : Nat), .int .u64 (fq 3 : Nat), .int .u64 (fq 4 : Nat), .int .u64 (fq 5 : Nat), .int .u64 (fq 6 : Nat), .int .u64 (fq 7 : Nat)], .bool (!t)]) ∧ Below w.heap.size w w' := by
  have HST : Hid (ShrSt w.heap.size w fa (fun _ => 0) ((w.alloc (.cells #[.int .u64 (fa 0 : Nat), .int .u64 (fa 1 : Nat), .int .u64 (fa 2 : Nat), .int .u64 (fa 3 : Nat), .int .u64 (fa 4 : Nat), .int .u64 (fa 5 : Nat), .int .u64 (fa 6 : Nat), .int .u64 (fa 7 : Nat)] 32)).alloc (.cells #[.int .u64 0, .int .u64 0, .int .u64 0, .int .u64 0, .int .u64 0, .int .u64 0, .int .u64 0, .int .u64 0] 32))) := by
    have hlz := liesF_new (w.alloc (.cells #[.int .u64 (fa 0 : Nat), .int .u64 (fa 1 : Nat), .int .u64 (fa 2 : Nat), .int .u64 (fa 3 : Nat), .int .u64 (fa 4 : Nat), .int .u64 (fa 5 : Nat), .int .u64 (fa 6 : Nat), .int .u64 (fa 7 : Nat)] 32)) (fun _ => 0) 32
    rw [World.size_alloc] at hlz
    exact ⟨(liesF_new w fa 32).alloc _, hlz, fun i => by simp [go_sem], below_trans (below_allocs w _) (below_allocs _ _)⟩
  go_enter Try.func75, Try.ntmps75
  go_upto_region 1 with fail
  refine wp_gen (fun W => ShrSt w.heap.size w fa (fun _ => 0) W ∧ w.heap.size + 2 ≤ W.heap.size) ⟨HST.out, by simp⟩ ?_
  rintro W1 h1
  refine wp_region_grow 6 [(7, .val (.agg #[.int .u64 (fa 0 : Nat), .int .u64 (fa 1 : Nat), .int .u64 (fa 2 : Nat), .int .u64 (fa 3 : Nat), .int .u64 (fa 4 : Nat), .int .u64 (fa 5 : Nat), .int .u64 (fa 6 : Nat), .int .u64 (fa 7 : Nat)])), (8, .val (.int .i64 n)), (9, .val (.int .i64 r)), (10, .val (.int .i64 (-r))), (11, .val (.agg #[.int .u64 (fq 0 : Nat), .int .u64 (fq 1 : Nat), .int .u64 (fq 2 : Nat), .int .u64 (fq 3 : Nat), .int .u64 (fq 4 : Nat), .int .u64 (fq 5 : Nat), .int .u64 (fq 6 : Nat), .int .u64 (fq 7 : Nat)])), (6, .box (w.heap.size + 2) (fun _ => 0))]
    (fun W => ShrSt w.heap.size w fa (fun _ => 0) W ∧ w.heap.size + 2 ≤ W.heap.size) mixedOk (by kernel_rfl) (by kernel_rfl) (⟨h1.1.below (Below.refl _ _).drew, h1.2⟩) (fun W W' h hb => ⟨h.1.below hb, Nat.le_trans h.2 hb.size⟩) ?_ ?_
  · refine gSt (gStep_run rfl ?_) ?_
    · intro ρ W hC hc hf hL
      have e2 : ρ (.tmp 2) = .pointer (some ⟨w.heap.size, 0, none⟩) := hL 2 (by decide +kernel)
      have hl := hC.1.la.1
      simp [go_sem, hc, hf, e2, hl]
      exact ⟨Below.refl _ _, rfl⟩
    refine gSt (gStep_run rfl (gRun_move 1 8 (.inl rfl) rfl (by decide +kernel) (fun v w h => h))) ?_
    refine gSt (gStep_run rfl ?_) ?_
    · intro ρ W hC hc hf hL
      have e8 : ρ (.tmp 8) = .int .i64 n := hL 8 (by decide +kernel)
      simp [go_sem, hc, hf, e8]
      refine (HR.out _).mono ?_
      rintro e w' ⟨rfl, hb⟩
      exact ⟨_, rfl, by first | exact hb | (subst hb; exact Below.refl _ _), rfl⟩
    refine gSt (gStep_run rfl ?_) ?_
    · intro ρ W hC hc hf hL
      have e9 : ρ (.tmp 9) = .int .i64 r := hL 9 (by decide +kernel)
      simp [go_sem, hc, hf, e9, hneg]
      exact ⟨Below.refl _ _, rfl⟩
    refine gSt (gStep_run rfl ?_) ?_
    · intro ρ W hC hc hf hL
      have e7 : ρ (.tmp 7) = .agg #[.int .u64 (fa 0 : Nat), .int .u64 (fa 1 : Nat), .int .u64 (fa 2 : Nat), .int .u64 (fa 3 : Nat), .int .u64 (fa 4 : Nat), .int .u64 (fa 5 : Nat), .int .u64 (fa 6 : Nat), .int .u64 (fa 7 : Nat)] := hL 7 (by decide +kernel)
      have e10 : ρ (.tmp 10) = .int .i64 (-r) := hL 10 (by decide +kernel)
      simp [go_sem, hc, hf, e7, e10]
      refine (HM.out _).mono ?_
      rintro e w' ⟨rfl, hb⟩
      exact ⟨_, rfl, by first | exact hb | (subst hb; exact Below.refl _ _), rfl⟩
    refine gSt (gStep_run rfl ?_) ?_
    · intro ρ W hC hc hf hL
      simp [go_sem, hc, hf]
      exact ⟨below_allocs _ _, _, rfl, hC.2, liesF_new _ (fun _ => 0) _, fun i => by simp [go_sem]⟩
    exact gSt0
  · intro W hC
    refine gFi 7 rfl ?_
    rintro _ rfl
    refine gFi 8 rfl ?_
    rintro _ rfl
    refine gFi 9 rfl ?_
    rintro _ rfl
    refine gFi 10 rfl ?_
    rintro _ rfl
    refine gFi 11 rfl ?_
    rintro _ rfl
    refine gFi 6 rfl ?_
    rintro _ ⟨p6, rfl, q6, l6, z6⟩
    refine gFi0 ?_
    simp only [List.drop_succ_cons, List.drop_zero]
    have hz := l6.1
    have hzl := l6.2
    have HC := hide hC
    have HL := hide l6
    clear hC h1 HST l6
    go_upto_region 2 with fail
    refine wp_gen (fun W => ShrSt w.heap.size w fa (fun _ => 0) W ∧ LiesF W p6 fq) ⟨?_, set8_same _ _ fq (fun _ => 0) HL.out⟩ ?_
    · have hs8 := below_set8 (Below.refl (w.heap.size + 2) W) p6 q6 (.int .u64 (fq 0 : Nat)) (.int .u64 (fq 1 : Nat)) (.int .u64 (fq 2 : Nat)) (.int .u64 (fq 3 : Nat)) (.int .u64 (fq 4 : Nat)) (.int .u64 (fq 5 : Nat)) (.int .u64 (fq 6 : Nat)) (.int .u64 (fq 7 : Nat))
      exact ⟨lies_box HC.out.1.la hs8 (by omega), lies_box HC.out.1.lr hs8 (by omega), fun i => (hs8.frozen (p := ⟨w.heap.size + 1, i, none⟩) (show w.heap.size + 1 < w.heap.size + 2 by omega)).trans (HC.out.1.fr i), HC.out.1.bel.trans (hs8.mono (by omega))⟩
    rintro W2 h2
    clear HC HL hz hzl z6
    have hp6 : w.heap.size + 1 < p6 := by omega
    refine wp_region_store 7 [6] [(12, .agg #[.int .u64 (fq 0 : Nat), .int .u64 (fq 1 : Nat), .int .u64 (fq 2 : Nat), .int .u64 (fq 3 : Nat), .int .u64 (fq 4 : Nat), .int .u64 (fq 5 : Nat), .int .u64 (fq 6 : Nat), .int .u64 (fq 7 : Nat)]), (13, .agg #[.int .u64 (fq 0 : Nat), .int .u64 (fq 1 : Nat), .int .u64 (fq 2 : Nat), .int .u64 (fq 3 : Nat), .int .u64 (fq 4 : Nat), .int .u64 (fq 5 : Nat), .int .u64 (fq 6 : Nat), .int .u64 (fq 7 : Nat)]), (14, .int .i64 n), (15, .agg #[.int .u64 (fu 0 : Nat), .int .u64 (fu 1 : Nat), .int .u64 (fu 2 : Nat), .int .u64 (fu 3 : Nat), .int .u64 (fu 4 : Nat), .int .u64 (fu 5 : Nat), .int .u64 (fu 6 : Nat), .int .u64 (fu 7 : Nat)]), (16, .agg #[.int .u64 (fa 0 : Nat), .int .u64 (fa 1 : Nat), .int .u64 (fa 2 : Nat), .int .u64 (fa 3 : Nat), .int .u64 (fa 4 : Nat), .int .u64 (fa 5 : Nat), .int .u64 (fa 6 : Nat), .int .u64 (fa 7 : Nat)]), (17, .bool (!t))]
      (fun bs W => ShrSt w.heap.size w fa (bif bs.headD false then fq else fun _ => 0) W ∧ LiesF W p6 fq) mixedOk (by kernel_rfl) (by kernel_rfl) (by kernel_rfl) (⟨h2.1.below (Below.refl _ _).drew, h2.2⟩) (fun bs W W' h hb => ⟨h.1.below hb, h.2.below hb⟩) ?_ ?_
    · refine sSt rfl (fun bs => gStep_run rfl ?_) ?_
      · intro ρ W hC hc hf hL
        have e6 : ρ (.tmp 6) = .pointer (some ⟨p6, 0, none⟩) := hL 6 (by decide +kernel)
        have hl := hC.2.1
        simp [go_sem, hc, hf, e6, hl]
        exact ⟨Below.refl _ _, rfl⟩
      refine sSt rfl (fun bs => gStep_run rfl ?_) ?_
      · intro ρ W hC hc hf hL
        have e6 : ρ (.tmp 6) = .pointer (some ⟨p6, 0, none⟩) := hL 6 (by decide +kernel)
        have hl := hC.2.1
        simp [go_sem, hc, hf, e6, hl]
        exact ⟨Below.refl _ _, rfl⟩
      refine sSt rfl (fun bs => gStep_run rfl (gRun_move 1 14 (.inl rfl) rfl (by decide +kernel) (fun v w h => h))) ?_
      refine sSt rfl (fun bs => gStep_run rfl ?_) ?_
      · intro ρ W hC hc hf hL
        have e13 : ρ (.tmp 13) = .agg #[.int .u64 (fq 0 : Nat), .int .u64 (fq 1 : Nat), .int .u64 (fq 2 : Nat), .int .u64 (fq 3 : Nat), .int .u64 (fq 4 : Nat), .int .u64 (fq 5 : Nat), .int .u64 (fq 6 : Nat), .int .u64 (fq 7 : Nat)] := hL 13 (by decide +kernel)
        have e14 : ρ (.tmp 14) = .int .i64 n := hL 14 (by decide +kernel)
        simp [go_sem, hc, hf, e13, e14]
        refine (HS.out _).mono ?_
        rintro e w' ⟨rfl, hb⟩
        exact ⟨_, rfl, by first | exact hb | (subst hb; exact Below.refl _ _), rfl⟩
      refine sSt rfl (fun bs => gStep_run rfl ?_) ?_
      · intro ρ W hC hc hf hL
        have e2 : ρ (.tmp 2) = .pointer (some ⟨w.heap.size, 0, none⟩) := hL 2 (by decide +kernel)
        have hl := hC.1.la.1
        simp [go_sem, hc, hf, e2, hl]
        exact ⟨Below.refl _ _, rfl⟩
      refine sSt rfl (fun bs => gStep_run rfl ?_) ?_
      · intro ρ W hC hc hf hL
        have e15 : ρ (.tmp 15) = .agg #[.int .u64 (fu 0 : Nat), .int .u64 (fu 1 : Nat), .int .u64 (fu 2 : Nat), .int .u64 (fu 3 : Nat), .int .u64 (fu 4 : Nat), .int .u64 (fu 5 : Nat), .int .u64 (fu 6 : Nat), .int .u64 (fu 7 : Nat)] := hL 15 (by decide +kernel)
        have e16 : ρ (.tmp 16) = .agg #[.int .u64 (fa 0 : Nat), .int .u64 (fa 1 : Nat), .int .u64 (fa 2 : Nat), .int .u64 (fa 3 : Nat), .int .u64 (fa 4 : Nat), .int .u64 (fa 5 : Nat), .int .u64 (fa 6 : Nat), .int .u64 (fa 7 : Nat)] := hL 16 (by decide +kernel)
        simp [go_sem, hc, hf, e15, e16, heq]
        exact ⟨Below.refl _ _, rfl⟩
      refine sStS rfl ⟨rfl, rfl, ?_⟩ ?_
      · intro φ ρ W hφ hC hc hL
        have e4 : ρ (.tmp 4) = .pointer (some ⟨w.heap.size + 1, 0, none⟩) := hL 4 (by decide +kernel)
        have e12 : ρ (.tmp 12) = .agg #[.int .u64 (fq 0 : Nat), .int .u64 (fq 1 : Nat), .int .u64 (fq 2 : Nat), .int .u64 (fq 3 : Nat), .int .u64 (fq 4 : Nat), .int .u64 (fq 5 : Nat), .int .u64 (fq 6 : Nat), .int .u64 (fq 7 : Nat)] := hL 12 (by decide +kernel)
        simp only [List.map_cons, List.map_nil, List.headD_cons, hφ, cond_false] at hC
        have hz := hC.1.lr.1
        have hzl := hC.1.lr.2
        have hzf := hC.1.fr
        simp [go_sem, hc, e4, e12, hz, hzf, hzl]
        exact ⟨hC.1.set8, lies_other hC.2 (by omega)⟩
      exact sSt0
    · intro W hC
      refine gFi 12 rfl ?_
      rintro _ rfl
      refine gFi 13 rfl ?_
      rintro _ rfl
      refine gFi 14 rfl ?_
      rintro _ rfl
      refine gFi 15 rfl ?_
      rintro _ rfl
      refine gFi 16 rfl ?_
      rintro _ rfl
      refine gFi 17 rfl ?_
      rintro _ rfl
      refine gFiN rfl ?_
      refine gFi0 ?_
      simp only [List.drop_succ_cons, List.drop_zero]
      have hr := hC.1.lr.1
      have HB := hide hC.1.bel
      clear hC
      go_wp2
      exact bodyPost_ret (v := .tuple #[.agg #[.int .u64 (fq 0 : Nat), .int .u64 (fq 1 : Nat), .int .u64 (fq 2 : Nat), .int .u64 (fq 3 : Nat), .int .u64 (fq 4 : Nat), .int .u64 (fq 5 : Nat), .int .u64 (fq 6 : Nat), .int .u64 (fq 7 : Nat)], .bool (!t)]) (by simp [results, Try.results75, go_sem, hr]) rfl ⟨rfl, HB.out⟩
    

end Go.Proofs.Yteocibahclpegaa

/- Contracts: wide.Shr, as numbers; radicandref02.Sar. -/
set_option linter.unusedVariables false
set_option linter.unusedSimpArgs false
set_option maxRecDepth 8000
namespace Go.Proofs.Yteocibahclpegaa
open Go.RowKit Plain

theorem w8_mod {x y : Nat} (h : x % QQ = y % QQ) : (#[.int .u64 (dgl (x) 0 : Nat), .int .u64 (dgl (x) 1 : Nat), .int .u64 (dgl (x) 2 : Nat), .int .u64 (dgl (x) 3 : Nat), .int .u64 (dgl (x) 4 : Nat), .int .u64 (dgl (x) 5 : Nat), .int .u64 (dgl (x) 6 : Nat), .int .u64 (dgl (x) 7 : Nat)] : Array Value) = #[.int .u64 (dgl (y) 0 : Nat), .int .u64 (dgl (y) 1 : Nat), .int .u64 (dgl (y) 2 : Nat), .int .u64 (dgl (y) 3 : Nat), .int .u64 (dgl (y) 4 : Nat), .int .u64 (dgl (y) 5 : Nat), .int .u64 (dgl (y) 6 : Nat), .int .u64 (dgl (y) 7 : Nat)] := by
  apply w8_congr (x := dgl x) (y := dgl y)
  intro i hi
  have h1 := wide_end (Q := 18446744073709551616) (by decide) x 8 i hi
  have h2 := wide_end (Q := 18446744073709551616) (by decide) y 8 i hi
  unfold dgl
  rw [← h1, ← h2]
  have h3 : x % 18446744073709551616 ^ 8 = y % 18446744073709551616 ^ 8 := h
  rw [h3]

theorem sh_down (a k : Nat) : sh a (-(k : Int)) = a / 2 ^ k := by
  unfold sh
  by_cases h : k = 0
  · subst h; rw [if_neg (by omega)]; simp
  · rw [if_pos (by omega), show (- -(k : Int)).toNat = k by omega]
theorem sh_up (a k : Nat) : sh a (k : Int) = a * 2 ^ k := by
  unfold sh
  rw [if_neg (by omega), Int.toNat_natCast]
theorem wide_eqb {a b : Nat} (ha : a < QQ) (hb : b < QQ) (w : World) :
    (Op.equalIn 10000 32 (.agg #[.int .u64 (dgl (a) 0 : Nat), .int .u64 (dgl (a) 1 : Nat), .int .u64 (dgl (a) 2 : Nat), .int .u64 (dgl (a) 3 : Nat), .int .u64 (dgl (a) 4 : Nat), .int .u64 (dgl (a) 5 : Nat), .int .u64 (dgl (a) 6 : Nat), .int .u64 (dgl (a) 7 : Nat)]) (.agg #[.int .u64 (dgl (b) 0 : Nat), .int .u64 (dgl (b) 1 : Nat), .int .u64 (dgl (b) 2 : Nat), .int .u64 (dgl (b) 3 : Nat), .int .u64 (dgl (b) 4 : Nat), .int .u64 (dgl (b) 5 : Nat), .int .u64 (dgl (b) 6 : Nat), .int .u64 (dgl (b) 7 : Nat)])).run Try.prog w = .ok (decide (a = b)) w := by
  by_cases h : a = b
  · subst h; rw [wide_same, decide_eq_true rfl]
  · rw [wide_diff ha hb h, decide_eq_false h]

theorem wideShr_any (a k : Nat) (n : Int) (hk : roomI n = (k : Int)) (ha : a < QQ) (w : World) :
    Calls Try.prog 75 #[.agg #[.int .u64 (dgl (a) 0 : Nat), .int .u64 (dgl (a) 1 : Nat), .int .u64 (dgl (a) 2 : Nat), .int .u64 (dgl (a) 3 : Nat), .int .u64 (dgl (a) 4 : Nat), .int .u64 (dgl (a) 5 : Nat), .int .u64 (dgl (a) 6 : Nat), .int .u64 (dgl (a) 7 : Nat)], .int .i64 n] w fun e w' => e = .returned (.tuple #[.agg #[.int .u64 (dgl (a / 2 ^ k) 0 : Nat), .int .u64 (dgl (a / 2 ^ k) 1 : Nat), .int .u64 (dgl (a / 2 ^ k) 2 : Nat), .int .u64 (dgl (a / 2 ^ k) 3 : Nat), .int .u64 (dgl (a / 2 ^ k) 4 : Nat), .int .u64 (dgl (a / 2 ^ k) 5 : Nat), .int .u64 (dgl (a / 2 ^ k) 6 : Nat), .int .u64 (dgl (a / 2 ^ k) 7 : Nat)], .bool (!decide (a / 2 ^ k * 2 ^ k = a))]) ∧ Below w.heap.size w w' := by
  have hbd := roomI_bd n
  have hq : a / 2 ^ k < QQ := Nat.lt_of_le_of_lt (Nat.div_le_self _ _) ha
  have hu : a / 2 ^ k * 2 ^ k < QQ := Nat.lt_of_le_of_lt (Nat.div_mul_le_self _ _) ha
  have hM := fun w => moved_any a 0 a (-(roomI n)) w (ext0 ha) (by omega) (by omega)
  have hS := fun w => wideShl_any (a / 2 ^ k) n hq w
  rw [hk, sh_down] at hM
  rw [hk, sh_up] at hS
  refine wideShr_walk (dgl a) (dgl (a / 2 ^ k)) (dgl (a / 2 ^ k * 2 ^ k)) n (k : Int) (decide (a / 2 ^ k * 2 ^ k = a)) w (fun w => by rw [← hk]; exact room_any n w) ?_ hM hS (fun w => wide_eqb hu ha w)
  rw [IntKind.wrap_i64]; omega

theorem shrSt_start (fa : Nat → Nat) (w : World) : ShrSt w.heap.size w fa (fun _ => 0) ((w.alloc (.cells #[.int .u64 (fa 0 : Nat), .int .u64 (fa 1 : Nat), .int .u64 (fa 2 : Nat), .int .u64 (fa 3 : Nat), .int .u64 (fa 4 : Nat), .int .u64 (fa 5 : Nat), .int .u64 (fa 6 : Nat), .int .u64 (fa 7 : Nat)] 32)).alloc (.cells #[.int .u64 0, .int .u64 0, .int .u64 0, .int .u64 0, .int .u64 0, .int .u64 0, .int .u64 0, .int .u64 0] 32)) := by
  have hlz := liesF_new (w.alloc (.cells #[.int .u64 (fa 0 : Nat), .int .u64 (fa 1 : Nat), .int .u64 (fa 2 : Nat), .int .u64 (fa 3 : Nat), .int .u64 (fa 4 : Nat), .int .u64 (fa 5 : Nat), .int .u64 (fa 6 : Nat), .int .u64 (fa 7 : Nat)] 32)) (fun _ => 0) 32
  rw [World.size_alloc] at hlz
  exact ⟨(liesF_new w fa 32).alloc _, hlz, fun i => by simp [go_sem], below_trans (below_allocs w _) (below_allocs _ _)⟩

end Go.Proofs.Yteocibahclpegaa

/- radicandref02.Sar, as numbers: it tells what wide.Sar does. -/
set_option linter.unusedVariables false
set_option linter.unusedSimpArgs false
set_option maxRecDepth 8000
namespace Go.Proofs.Yteocibahclpegaa
open Go.RowKit Plain

theorem div_past (a k r q : Nat) (hr : r = min k q) (hQ : 2 ^ q = QQ) (ha : a < QQ) : a / 2 ^ r = a / 2 ^ k := by
  rcases Nat.lt_or_ge q k with h | h
  · have hrq : r = q := by omega
    subst hrq
    have h2 : a < 2 ^ r := by rw [hQ]; exact ha
    have h3 : 2 ^ r ≤ 2 ^ k := Nat.pow_le_pow_right (by decide) (by omega)
    rw [Nat.div_eq_of_lt h2, Nat.div_eq_of_lt (Nat.lt_of_lt_of_le h2 h3)]
  · have : r = k := by omega
    rw [this]
end Go.Proofs.Yteocibahclpegaa

/- Sums, differences and signs of wides, as numbers. -/
set_option linter.unusedVariables false
set_option linter.unusedSimpArgs false
set_option maxRecDepth 8000
namespace Go.Proofs.Yteocibahclpegaa
open Go.RowKit Plain

theorem bitLen_lt (a : Nat) : a < 2 ^ Go.bitLen a := by
  unfold Go.bitLen
  split
  · rename_i h; rw [h]; decide
  · exact Nat.lt_log2_self
theorem bitLen_le (a q : Nat) (h : a < 2 ^ q) : Go.bitLen a ≤ q := by
  unfold Go.bitLen
  split
  · omega
  · rename_i h0
    have := (Nat.log2_lt h0).2 h
    omega

end Go.Proofs.Yteocibahclpegaa

/- The sum of limbs' products, as numbers. -/
set_option linter.unusedVariables false
set_option linter.unusedSimpArgs false
set_option maxRecDepth 8000
namespace Go.Proofs.Yteocibahclpegaa
open Go.RowKit Plain

/-- A limb. -/
def LW : Nat := 18446744073709551616
theorem lw_pos : 0 < LW := by decide
theorem dgl_lw (n k : Nat) : dgl n k = n / LW ^ k % LW := rfl

/-- The product of two limbs, if it is wanted. -/
def cw (a b : Nat) (wt : Nat → Bool) (i k : Nat) : Nat := bif wt (i + k) then dgl a i * dgl b k else 0
def rowS (a b : Nat) (wt : Nat → Bool) (i : Nat) : Nat → Nat
  | 0 => 0
  | k + 1 => rowS a b wt i k + cw a b wt i k * LW ^ (i + k)
def allS (a b : Nat) (wt : Nat → Bool) : Nat → Nat
  | 0 => 0
  | i + 1 => allS a b wt i + rowS a b wt i 8

theorem row_zero (a b : Nat) (wt : Nat → Bool) (i : Nat) (h : dgl a i = 0) : ∀ k, rowS a b wt i k = 0
  | 0 => rfl
  | k + 1 => by
    unfold rowS cw
    rw [row_zero a b wt i h k, h, Nat.zero_mul]
    cases wt (i + k) <;> simp

structure PInv (a b : Nat) (wt : Nat → Bool) (i k c : Nat) (o : List Nat) : Prop where
  len : o.length = 16
  lt : ∀ j, dg o j < LW
  hi : ∀ j, i + 8 ≤ j → dg o j = 0
  cl : c < LW
  sum : val LW o + c * LW ^ (i + k) = allS a b wt i + rowS a b wt i k

theorem pinv_start (a b : Nat) (wt : Nat → Bool) : PInv a b wt 0 0 0 (List.replicate 16 0) :=
  ⟨rfl, fun j => by rw [dg_zeros]; exact lw_pos, fun j _ => dg_zeros _ _, lw_pos, by rw [val_zeros]; rfl⟩

theorem cw_le (a b : Nat) (wt : Nat → Bool) (i k : Nat) : cw a b wt i k ≤ (LW - 1) * (LW - 1) := by
  unfold cw
  cases wt (i + k)
  · exact Nat.zero_le _
  · have h1 := dgl_lt a i
    have h2 := dgl_lt b k
    exact Nat.mul_le_mul (by unfold LW; omega) (by unfold LW; omega)

theorem pinv_step {a b i k c : Nat} {wt : Nat → Bool} {o : List Nat} (h : PInv a b wt i k c o) (hi : i < 8) (hk : k < 8) (hh l s1 c1 s2 c2 : Nat)
    (hm : l + LW * hh = cw a b wt i k) (h1 : s1 + LW * c1 = dg o (i + k) + l) (h2 : s2 + LW * c2 = s1 + c) (hs2 : s2 < LW) :
    hh + c1 + c2 < LW ∧ PInv a b wt i (k + 1) (hh + c1 + c2) (o.set (i + k) s2) := by
  have hlt : i + k < o.length := by rw [h.len]; omega
  have hc : hh + c1 + c2 < LW := by
    have e1 := cw_le a b wt i k
    have e2 := h.lt (i + k)
    have e3 := h.cl
    unfold LW at *
    omega
  refine ⟨hc, by rw [List.length_set]; exact h.len, fun j => ?_, fun j hj => ?_, hc, ?_⟩
  · rw [dg_set _ _ _ _ hlt]
    split
    · exact hs2
    · exact h.lt j
  · rw [dg_set _ _ _ _ hlt, if_neg (by omega)]
    exact h.hi j hj
  · have hv := val_set LW o (i + k) s2 hlt
    have hs := h.sum
    unfold rowS
    rw [← Nat.add_assoc (allS a b wt i), ← hs, ← hm, ← Nat.add_assoc i k 1, Nat.pow_succ]
    have e : s2 + LW * (hh + c1 + c2) = dg o (i + k) + c + (l + LW * hh) := by
      rw [Nat.mul_add, Nat.mul_add]; omega
    generalize LW ^ (i + k) = Q at *
    have e2 : (s2 + LW * (hh + c1 + c2)) * Q = (dg o (i + k) + c + (l + LW * hh)) * Q := by rw [e]
    rw [Nat.add_mul, Nat.add_mul, Nat.add_mul] at e2
    have e3 : (hh + c1 + c2) * (Q * LW) = LW * (hh + c1 + c2) * Q := by ac_rfl
    rw [e3]
    omega

theorem pinv_row {a b i c : Nat} {wt : Nat → Bool} {o : List Nat} (h : PInv a b wt i 8 c o) (hi : i < 8) : PInv a b wt (i + 1) 0 0 (o.set (i + 8) c) := by
  have hlt : i + 8 < o.length := by rw [h.len]; omega
  refine ⟨by rw [List.length_set]; exact h.len, fun j => ?_, fun j hj => ?_, lw_pos, ?_⟩
  · rw [dg_set _ _ _ _ hlt]
    split
    · exact h.cl
    · exact h.lt j
  · rw [dg_set _ _ _ _ hlt, if_neg (by omega)]
    exact h.hi j (by omega)
  · have hv := val_set LW o (i + 8) c hlt
    rw [h.hi (i + 8) (Nat.le_refl _)] at hv
    have hs := h.sum
    show _ = allS a b wt i + rowS a b wt i 8 + 0
    omega
theorem pinv_skip {a b i : Nat} {wt : Nat → Bool} {o : List Nat} (h : PInv a b wt i 0 0 o) (h0 : dgl a i = 0) : PInv a b wt (i + 1) 0 0 o := by
  refine ⟨h.len, h.lt, fun j hj => h.hi j (by omega), lw_pos, ?_⟩
  have hs := h.sum
  show _ = allS a b wt i + rowS a b wt i 8 + 0
  rw [row_zero a b wt i h0]
  have : rowS a b wt i 0 = 0 := rfl
  omega

theorem pinv_end {a b : Nat} {wt : Nat → Bool} {o : List Nat} (h : PInv a b wt 8 0 0 o) : (∀ j, dg o j = dgl (allS a b wt 8) j) ∧ allS a b wt 8 < LW ^ 16 := by
  have hd := val_dig lw_pos o h.lt
  have hs := h.sum
  have hv : val LW o = allS a b wt 8 := by
    have : rowS a b wt 8 0 = 0 := rfl
    omega
  rw [hv] at hd
  exact ⟨fun j => hd.2 j, by have := hd.1; rw [h.len] at this; exact this⟩

theorem mod_up (a k : Nat) : a % LW ^ (k + 1) = a % LW ^ k + LW ^ k * dgl a k := by
  rw [Nat.pow_succ, Nat.mod_mul]; rfl
theorem row_all (a b i : Nat) : ∀ k, rowS a b (fun _ => true) i k = dgl a i * LW ^ i * (b % LW ^ k)
  | 0 => by rw [Nat.pow_zero, Nat.mod_one, Nat.mul_zero]; rfl
  | k + 1 => by
    unfold rowS
    rw [row_all a b i k, mod_up, Nat.mul_add]
    congr 1
    show dgl a i * dgl b k * LW ^ (i + k) = _
    rw [Nat.pow_add]; ac_rfl
theorem all_all (a b : Nat) : ∀ i, allS a b (fun _ => true) i = (a % LW ^ i) * (b % LW ^ 8)
  | 0 => by rw [Nat.pow_zero, Nat.mod_one, Nat.zero_mul]; rfl
  | i + 1 => by
    unfold allS
    rw [all_all a b i, row_all, mod_up a i, Nat.add_mul]
    congr 1
    ac_rfl
theorem all_mul (a b : Nat) (ha : a < QQ) (hb : b < QQ) : allS a b (fun _ => true) 8 = a * b := by
  rw [all_all, show a % LW ^ 8 = a from Nat.mod_eq_of_lt ha, show b % LW ^ 8 = b from Nat.mod_eq_of_lt hb]

theorem dgl_high (n j : Nat) : dgl n (8 + j) = dgl (n / QQ) j := by
  unfold dgl QQ
  rw [Nat.pow_add, Nat.div_div_eq_div_mul]

end Go.Proofs.Yteocibahclpegaa

/- Contracts: prod.summed. -/
set_option linter.unusedVariables false
set_option linter.unusedSimpArgs false
set_option maxRecDepth 8000
namespace Go.Proofs.Yteocibahclpegaa
open Go.RowKit Plain

theorem idx_run (f : Nat → Nat) (i : Nat) (hi : i < 8) (w : World) : (Instr.index 32 (.agg #[.int .u64 (f 0 : Nat), .int .u64 (f 1 : Nat), .int .u64 (f 2 : Nat), .int .u64 (f 3 : Nat), .int .u64 (f 4 : Nat), .int .u64 (f 5 : Nat), .int .u64 (f 6 : Nat), .int .u64 (f 7 : Nat)]) (.int .i64 (i : Nat))).run Try.prog w = .ok (.int .u64 (f i : Nat)) w := by
  match i, hi with
  | 0, _ => simp [Instr.index, go_sem, run_underlying Try.underlying32]
  | 1, _ => simp [Instr.index, go_sem, run_underlying Try.underlying32]
  | 2, _ => simp [Instr.index, go_sem, run_underlying Try.underlying32]
  | 3, _ => simp [Instr.index, go_sem, run_underlying Try.underlying32]
  | 4, _ => simp [Instr.index, go_sem, run_underlying Try.underlying32]
  | 5, _ => simp [Instr.index, go_sem, run_underlying Try.underlying32]
  | 6, _ => simp [Instr.index, go_sem, run_underlying Try.underlying32]
  | 7, _ => simp [Instr.index, go_sem, run_underlying Try.underlying32]

structure SumSt (w : World) (b : Nat) (o : List Nat) (wr : World) : Prop where
  lb : LiesF wr (w.heap.size + 1) (dgl b)
  own : wr.ownsRow w.heap.size 119 1 (.slice (some ⟨w.heap.size + 1 + 1 + 1, 0, none⟩) 16 16) 16 (o.map mk64)
  res : wr.ownsRow w.heap.size 119 1 (.slice (some ⟨w.heap.size + 1 + 1, 0, none⟩) 16 16) 16 ((List.replicate 16 0).map mk64)
  bel : Below w.heap.size w wr

theorem SumSt.start (w : World) (a b : Nat) : SumSt w b (List.replicate 16 0) ((((w.alloc (.cells #[.int .u64 (dgl (a) 0 : Nat), .int .u64 (dgl (a) 1 : Nat), .int .u64 (dgl (a) 2 : Nat), .int .u64 (dgl (a) 3 : Nat), .int .u64 (dgl (a) 4 : Nat), .int .u64 (dgl (a) 5 : Nat), .int .u64 (dgl (a) 6 : Nat), .int .u64 (dgl (a) 7 : Nat)] 32)).alloc (.cells #[.int .u64 (dgl (b) 0 : Nat), .int .u64 (dgl (b) 1 : Nat), .int .u64 (dgl (b) 2 : Nat), .int .u64 (dgl (b) 3 : Nat), .int .u64 (dgl (b) 4 : Nat), .int .u64 (dgl (b) 5 : Nat), .int .u64 (dgl (b) 6 : Nat), .int .u64 (dgl (b) 7 : Nat)] 32)).alloc (.cells #[.int .u64 0, .int .u64 0, .int .u64 0, .int .u64 0, .int .u64 0, .int .u64 0, .int .u64 0, .int .u64 0, .int .u64 0, .int .u64 0, .int .u64 0, .int .u64 0, .int .u64 0, .int .u64 0, .int .u64 0, .int .u64 0] 119)).alloc (.cells #[.int .u64 0, .int .u64 0, .int .u64 0, .int .u64 0, .int .u64 0, .int .u64 0, .int .u64 0, .int .u64 0, .int .u64 0, .int .u64 0, .int .u64 0, .int .u64 0, .int .u64 0, .int .u64 0, .int .u64 0, .int .u64 0] 119)) := by
  have h1 := liesF_new (w.alloc (.cells #[.int .u64 (dgl (a) 0 : Nat), .int .u64 (dgl (a) 1 : Nat), .int .u64 (dgl (a) 2 : Nat), .int .u64 (dgl (a) 3 : Nat), .int .u64 (dgl (a) 4 : Nat), .int .u64 (dgl (a) 5 : Nat), .int .u64 (dgl (a) 6 : Nat), .int .u64 (dgl (a) 7 : Nat)] 32)) (dgl b) 32
  have h2 := World.ownsRow_lit (base := w.heap.size) (e := 119) (size := 1) ((w.alloc (.cells #[.int .u64 (dgl (a) 0 : Nat), .int .u64 (dgl (a) 1 : Nat), .int .u64 (dgl (a) 2 : Nat), .int .u64 (dgl (a) 3 : Nat), .int .u64 (dgl (a) 4 : Nat), .int .u64 (dgl (a) 5 : Nat), .int .u64 (dgl (a) 6 : Nat), .int .u64 (dgl (a) 7 : Nat)] 32)).alloc (.cells #[.int .u64 (dgl (b) 0 : Nat), .int .u64 (dgl (b) 1 : Nat), .int .u64 (dgl (b) 2 : Nat), .int .u64 (dgl (b) 3 : Nat), .int .u64 (dgl (b) 4 : Nat), .int .u64 (dgl (b) 5 : Nat), .int .u64 (dgl (b) 6 : Nat), .int .u64 (dgl (b) 7 : Nat)] 32)) #[.int .u64 0, .int .u64 0, .int .u64 0, .int .u64 0, .int .u64 0, .int .u64 0, .int .u64 0, .int .u64 0, .int .u64 0, .int .u64 0, .int .u64 0, .int .u64 0, .int .u64 0, .int .u64 0, .int .u64 0, .int .u64 0] 16 (by simp; omega) (by simp [maxLen]) rfl
  have h3 := World.ownsRow_lit (base := w.heap.size) (e := 119) (size := 1) (((w.alloc (.cells #[.int .u64 (dgl (a) 0 : Nat), .int .u64 (dgl (a) 1 : Nat), .int .u64 (dgl (a) 2 : Nat), .int .u64 (dgl (a) 3 : Nat), .int .u64 (dgl (a) 4 : Nat), .int .u64 (dgl (a) 5 : Nat), .int .u64 (dgl (a) 6 : Nat), .int .u64 (dgl (a) 7 : Nat)] 32)).alloc (.cells #[.int .u64 (dgl (b) 0 : Nat), .int .u64 (dgl (b) 1 : Nat), .int .u64 (dgl (b) 2 : Nat), .int .u64 (dgl (b) 3 : Nat), .int .u64 (dgl (b) 4 : Nat), .int .u64 (dgl (b) 5 : Nat), .int .u64 (dgl (b) 6 : Nat), .int .u64 (dgl (b) 7 : Nat)] 32)).alloc (.cells #[.int .u64 0, .int .u64 0, .int .u64 0, .int .u64 0, .int .u64 0, .int .u64 0, .int .u64 0, .int .u64 0, .int .u64 0, .int .u64 0, .int .u64 0, .int .u64 0, .int .u64 0, .int .u64 0, .int .u64 0, .int .u64 0] 119)) #[.int .u64 0, .int .u64 0, .int .u64 0, .int .u64 0, .int .u64 0, .int .u64 0, .int .u64 0, .int .u64 0, .int .u64 0, .int .u64 0, .int .u64 0, .int .u64 0, .int .u64 0, .int .u64 0, .int .u64 0, .int .u64 0] 16 (by simp; omega) (by simp [maxLen]) rfl
  simp only [World.size_alloc] at h1 h2 h3
  exact ⟨(h1.alloc _).alloc _, h3, h2.alloc _, below_trans (below_trans (below_trans (below_allocs _ _) (below_allocs _ _)) (below_allocs _ _)) (below_allocs _ _)⟩

theorem SumSt.store {w : World} {b : Nat} {o : List Nat} {wr : World} (h : SumSt w b o wr) (hl : o.length = 16) (j d : Nat) : SumSt w b (o.set j d) (wr.setCell ⟨w.heap.size + 1 + 1 + 1, j, none⟩ (.int .u64 (d : Nat))) := by
  have hs := owns_store (mk := mk64) h.own j d h.bel (by omega)
  have hr := h.res.kept (h.own.stored j (mk64 d)).2 (.inr (by simp [Value.ownBlock]))
  refine ⟨⟨fun i hi => ?_, by simpa using h.lb.2⟩, hs.1, hr, hs.2⟩
  have := h.lb.1 i hi
  simp [go_sem, this]

set_option maxHeartbeats 4000000 in
theorem summed_any (fid : Nat) (caps : Array Value) (wt : Nat → Bool) (a b : Nat) (w : World)
    (hent : ∀ args w, (callFunc fid args).run Try.prog w = .ok (.enter fid args) w)
    (hcall : ∀ (p : Nat) wr, p < 16 → Below w.heap.size w wr → Calls Try.prog fid (#[.int .i64 (p : Nat)] ++ caps) wr fun e w' => e = .returned (.bool (wt p)) ∧ w' = wr) :
    Calls Try.prog 81 #[.agg #[.int .u64 (dgl (a) 0 : Nat), .int .u64 (dgl (a) 1 : Nat), .int .u64 (dgl (a) 2 : Nat), .int .u64 (dgl (a) 3 : Nat), .int .u64 (dgl (a) 4 : Nat), .int .u64 (dgl (a) 5 : Nat), .int .u64 (dgl (a) 6 : Nat), .int .u64 (dgl (a) 7 : Nat)], .agg #[.int .u64 (dgl (b) 0 : Nat), .int .u64 (dgl (b) 1 : Nat), .int .u64 (dgl (b) 2 : Nat), .int .u64 (dgl (b) 3 : Nat), .int .u64 (dgl (b) 4 : Nat), .int .u64 (dgl (b) 5 : Nat), .int .u64 (dgl (b) 6 : Nat), .int .u64 (dgl (b) 7 : Nat)], .func (.func fid) #[] caps] w fun e w' => e = .returned (.agg #[.int .u64 (dgl (allS a b wt 8) 0 : Nat), .int .u64 (dgl (allS a b wt 8) 1 : Nat), .int .u64 (dgl (allS a b wt 8) 2 : Nat), .int .u64 (dgl (allS a b wt 8) 3 : Nat), .int .u64 (dgl (allS a b wt 8) 4 : Nat), .int .u64 (dgl (allS a b wt 8) 5 : Nat), .int .u64 (dgl (allS a b wt 8) 6 : Nat), .int .u64 (dgl (allS a b wt 8) 7 : Nat), .int .u64 (dgl (allS a b wt 8) 8 : Nat), .int .u64 (dgl (allS a b wt 8) 9 : Nat), .int .u64 (dgl (allS a b wt 8) 10 : Nat), .int .u64 (dgl (allS a b wt 8) 11 : Nat), .int .u64 (dgl (allS a b wt 8) 12 : Nat), .int .u64 (dgl (allS a b wt 8) 13 : Nat), .int .u64 (dgl (allS a b wt 8) 14 : Nat), .int .u64 (dgl (allS a b wt 8) 15 : Nat)]) ∧ Below w.heap.size w w' := by
  have HC := hide hcall
  clear hcall
  generalize hS : allS a b wt 8 = S
  have HSS := hide hS
  clear hS
  have HS0 := hide (SumSt.start w a b)
  go_enter Try.func81, Try.ntmps81
  go_wp2
  go_loopw [19] (fun i wr => ∃ (k : Nat) (o : List Nat), k ≤ 8 ∧ i = .int .i64 k ∧ Hid (PInv a b wt k 0 0 o) ∧ Hid (SumSt w b o wr))
    (fun i _ => 8 - (intOf i).toNat)
  case atStart => exact ⟨0, List.replicate 16 0, by omega, rfl, pinv_start a b wt, HS0.out⟩
  case round =>
    clear HS0
    obtain ⟨i, o, hi, rfl, hpi, hst⟩ := hrel
    by_cases hlt : i < 8
    · have hj1 : (i : Int) < 8 := by omega
      have hia := fun w => idx_run (dgl a) i hlt w
      have hda := dgl_lt a i
      by_cases h0 : dgl a i = 0
      · have HP := hide (pinv_skip hpi.out h0)
        rw [h0] at hia
        clear hpi h0 hda
        go_wp2
        go_roundw
        case rel => exact ⟨i + 1, o, by omega, by go_num, HP, hst⟩
        case measure => simp [intOf]; omega
      · have h0' : (((dgl a i : Nat) : Int) == 0) = false := by rw [beq_eq_false_iff_ne]; omega
        have hlb := hst.out.lb.1
        generalize hx : dgl a i = x at *
        have HX := hide hx
        clear hx
        go_wp2
        clear hlb h0 h0'
        go_loopw [10, 26] (fun c k wr => ∃ (kk c' : Nat) (o : List Nat), kk ≤ 8 ∧ k = .int .i64 kk ∧ c = .int .u64 c' ∧ Hid (PInv a b wt i kk c' o) ∧ Hid (SumSt w b o wr))
          (fun _ k _ => 8 - (intOf k).toNat)
        case atStart => exact ⟨0, 0, o, by omega, rfl, rfl, hpi, hst⟩
        case round =>
          clear hpi hst
          obtain ⟨k, c, o, hk, rfl, rfl, hpi, hst⟩ := hrel
          by_cases hlt2 : k < 8
          · have hj2 : (k : Int) < 8 := by omega
            have hib := fun w => idx_run (dgl b) k hlt2 w
            have hdb := dgl_lt b k
            have hik : (i : Int) + (k : Int) < 16 := by omega
            have hco : wr.cell? ⟨w.heap.size + 1 + 1 + 1, i + k, none⟩ = some (.int .u64 (dg o (i + k) : Nat)) := owns_cell hst.out.own hpi.out.len (i + k) (by omega)
            have hfo : wr.frozen? ⟨w.heap.size + 1 + 1 + 1, i + k, none⟩ = false := hst.out.own.frozenAt _
            have ho : dg o (i + k) < 18446744073709551616 := hpi.out.lt _
            have hcl : c < 18446744073709551616 := hpi.out.cl
            have HLEN := hide hpi.out.len
            have HSTEP := hide (fun hh l s1 c1 s2 c2 hm h1 h2 hs2 => pinv_step hpi.out hlt hlt2 hh l s1 c1 s2 c2 hm h1 h2 hs2)
            clear hpi
            generalize dg o (i + k) = od at *
            have HCP := hide (unhide HC (i + k) wr (by omega) hst.out.bel)
            rw [Int.natCast_add] at HCP
            have hAdd : ∀ (s1 c1 : Nat) (HH LO : Nat), True := fun _ _ _ _ => trivial
            clear hAdd
            cases hw : wt (i + k)
            · rw [hw] at HCP
              have HCW := hide (show cw a b wt i k = 0 by unfold cw; rw [hw]; rfl)
              clear hw
              go_wp2_with fail
              refine HCP.out.mono ?_
              rintro e w' ⟨rfl, hw'⟩
              subst w'
              go_wp2_with fail
              refine (add_nat od 0 0 _).mono ?_
              rintro e w' ⟨s1, c1, rfl, hs1, he1, hw'⟩
              subst w'
              go_wp2_with fail
              refine (add_nat s1 c 0 _).mono ?_
              rintro e w' ⟨s2, c2, rfl, hs2, he2, hw'⟩
              subst w'
              have he1' : s1 + 18446744073709551616 * c1 = od + 0 := he1
              have he2' : s2 + 18446744073709551616 * c2 = s1 + c := he2
              obtain ⟨hlt3, hpi2⟩ := HSTEP.out 0 0 s1 c1 s2 c2 (by rw [HCW.out]; rfl) he1' he2' hs2
              have HP2 := hide hpi2
              have hlt4 : (c1 : Int) + (c2 : Int) < 18446744073709551616 := by unfold LW at hlt3; omega
              have hlt5 : (c1 : Int) < 18446744073709551616 := by omega
              clear he1 he2 he1' he2' hpi2 hlt3
              go_wp2
              go_roundw
              case rel =>
                exact ⟨k + 1, 0 + c1 + c2, _, by omega, by go_num, by rw [Nat.zero_add, Int.natCast_add], HP2, hst.out.store HLEN.out (i + k) s2⟩
              case measure => simp [intOf]; omega
            · rw [hw] at HCP
              have HCW := hide (show cw a b wt i k = x * dgl b k by unfold cw; rw [hw, HX.out]; rfl)
              clear hw
              generalize dgl b k = y at *
              go_wp2_with fail
              refine HCP.out.mono ?_
              rintro e w' ⟨rfl, hw'⟩
              subst w'
              go_wp2_with fail
              refine (mul_nat x y hda hdb _).mono ?_
              rintro e w' ⟨hh, l, rfl, hhl, hll, hml, hw'⟩
              subst w'
              go_wp2_with fail
              refine (add_nat od l 0 _).mono ?_
              rintro e w' ⟨s1, c1, rfl, hs1, he1, hw'⟩
              subst w'
              go_wp2_with fail
              refine (add_nat s1 c 0 _).mono ?_
              rintro e w' ⟨s2, c2, rfl, hs2, he2, hw'⟩
              subst w'
              have he1' : s1 + 18446744073709551616 * c1 = od + l := he1
              have he2' : s2 + 18446744073709551616 * c2 = s1 + c := he2
              obtain ⟨hlt3, hpi2⟩ := HSTEP.out hh l s1 c1 s2 c2 (by rw [HCW.out]; exact hml) he1' he2' hs2
              have HP2 := hide hpi2
              have hlt4 : (hh : Int) + (c1 : Int) + (c2 : Int) < 18446744073709551616 := by unfold LW at hlt3; omega
              have hlt5 : (hh : Int) + (c1 : Int) < 18446744073709551616 := by omega
              clear he1 he2 he1' he2' hpi2 hlt3 hml
              go_wp2
              go_roundw
              case rel =>
                exact ⟨k + 1, hh + c1 + c2, _, by omega, by go_num, by rw [Int.natCast_add, Int.natCast_add], HP2, hst.out.store HLEN.out (i + k) s2⟩
              case measure => simp [intOf]; omega
          · have hk8 : k = 8 := by omega
            subst hk8
            have hco : wr.cell? ⟨w.heap.size + 1 + 1 + 1, i + 8, none⟩ = some (.int .u64 (dg o (i + 8) : Nat)) := owns_cell hst.out.own hpi.out.len (i + 8) (by omega)
            have hfo : wr.frozen? ⟨w.heap.size + 1 + 1 + 1, i + 8, none⟩ = false := hst.out.own.frozenAt _
            have HP2 := hide (pinv_row hpi.out hlt)
            have HLEN := hide hpi.out.len
            have hik : (i : Int) + 8 < 16 := by omega
            clear hpi
            generalize dg o (i + 8) = od at *
            go_wp2
            go_roundw
            case rel => exact ⟨i + 1, _, by omega, by go_num, HP2, hst.out.store HLEN.out (i + 8) c⟩
            case measure => simp [intOf]; omega
    · have hk8 : i = 8 := by omega
      subst hk8
      obtain ⟨hdig, -⟩ := pinv_end hpi.out
      rw [HSS.out] at hdig
      have hv : ∀ j, j < 16 → wr.cell? ⟨w.heap.size + 1 + 1 + 1, j, none⟩ = some (.int .u64 (dgl S j : Nat)) := fun j hj => by rw [owns_cell hst.out.own hpi.out.len j hj, hdig j]; rfl
      have hr : ∀ j, j < 16 → wr.cell? ⟨w.heap.size + 1 + 1, j, none⟩ = some (.int .u64 (dg (List.replicate 16 0) j : Nat)) := fun j hj => owns_cell hst.out.res (by simp) j hj
      have hfr : ∀ j, wr.frozen? ⟨w.heap.size + 1 + 1, j, none⟩ = false := fun j => hst.out.res.frozenAt j
      have HB := hide hst.out.bel
      clear hpi hst hdig
      go_wp2
      exact bodyPost_ret (v := .agg #[.int .u64 (dgl (S) 0 : Nat), .int .u64 (dgl (S) 1 : Nat), .int .u64 (dgl (S) 2 : Nat), .int .u64 (dgl (S) 3 : Nat), .int .u64 (dgl (S) 4 : Nat), .int .u64 (dgl (S) 5 : Nat), .int .u64 (dgl (S) 6 : Nat), .int .u64 (dgl (S) 7 : Nat), .int .u64 (dgl (S) 8 : Nat), .int .u64 (dgl (S) 9 : Nat), .int .u64 (dgl (S) 10 : Nat), .int .u64 (dgl (S) 11 : Nat), .int .u64 (dgl (S) 12 : Nat), .int .u64 (dgl (S) 13 : Nat), .int .u64 (dgl (S) 14 : Nat), .int .u64 (dgl (S) 15 : Nat)]) (by simp [results, Try.results81, go_sem, hr]) rfl ⟨rfl, ((((((((((((((((HB.out.setCell (p := ⟨w.heap.size + 1 + 1, 0, none⟩) (by simp; omega) _).setCell (p := ⟨w.heap.size + 1 + 1, 1, none⟩) (by simp; omega) _).setCell (p := ⟨w.heap.size + 1 + 1, 2, none⟩) (by simp; omega) _).setCell (p := ⟨w.heap.size + 1 + 1, 3, none⟩) (by simp; omega) _).setCell (p := ⟨w.heap.size + 1 + 1, 4, none⟩) (by simp; omega) _).setCell (p := ⟨w.heap.size + 1 + 1, 5, none⟩) (by simp; omega) _).setCell (p := ⟨w.heap.size + 1 + 1, 6, none⟩) (by simp; omega) _).setCell (p := ⟨w.heap.size + 1 + 1, 7, none⟩) (by simp; omega) _).setCell (p := ⟨w.heap.size + 1 + 1, 8, none⟩) (by simp; omega) _).setCell (p := ⟨w.heap.size + 1 + 1, 9, none⟩) (by simp; omega) _).setCell (p := ⟨w.heap.size + 1 + 1, 10, none⟩) (by simp; omega) _).setCell (p := ⟨w.heap.size + 1 + 1, 11, none⟩) (by simp; omega) _).setCell (p := ⟨w.heap.size + 1 + 1, 12, none⟩) (by simp; omega) _).setCell (p := ⟨w.heap.size + 1 + 1, 13, none⟩) (by simp; omega) _).setCell (p := ⟨w.heap.size + 1 + 1, 14, none⟩) (by simp; omega) _).setCell (p := ⟨w.heap.size + 1 + 1, 15, none⟩) (by simp; omega) _)⟩

end Go.Proofs.Yteocibahclpegaa

/- Contracts: prod.halves, prod.all. -/
set_option linter.unusedVariables false
set_option linter.unusedSimpArgs false
set_option maxRecDepth 8000
namespace Go.Proofs.Yteocibahclpegaa
open Go.RowKit Plain

/-- Sixteen limbs lie in a block. -/
def Lies16 (W : World) (b S : Nat) : Prop := (∀ i, i < 16 → W.cell? ⟨b, i, none⟩ = some (.int .u64 (dgl S i : Nat))) ∧ b < W.heap.size
theorem Lies16.below {W W' : World} {b S : Nat} (h : Lies16 W b S) (hb : Below W.heap.size W W') : Lies16 W' b S :=
  ⟨fun i hi => (hb.cell (p := ⟨b, i, none⟩) h.2).trans (h.1 i hi), Nat.lt_of_lt_of_le h.2 hb.size⟩
theorem lies16_new (w : World) (S : Nat) (e : TypeId) : Lies16 (w.alloc (.cells #[.int .u64 (dgl (S) 0 : Nat), .int .u64 (dgl (S) 1 : Nat), .int .u64 (dgl (S) 2 : Nat), .int .u64 (dgl (S) 3 : Nat), .int .u64 (dgl (S) 4 : Nat), .int .u64 (dgl (S) 5 : Nat), .int .u64 (dgl (S) 6 : Nat), .int .u64 (dgl (S) 7 : Nat), .int .u64 (dgl (S) 8 : Nat), .int .u64 (dgl (S) 9 : Nat), .int .u64 (dgl (S) 10 : Nat), .int .u64 (dgl (S) 11 : Nat), .int .u64 (dgl (S) 12 : Nat), .int .u64 (dgl (S) 13 : Nat), .int .u64 (dgl (S) 14 : Nat), .int .u64 (dgl (S) 15 : Nat)] e)) w.heap.size S := by
  refine ⟨fun i hi => ?_, by simp⟩
  match i, hi with
  | 0, _ => simp [go_sem]
  | 1, _ => simp [go_sem]
  | 2, _ => simp [go_sem]
  | 3, _ => simp [go_sem]
  | 4, _ => simp [go_sem]
  | 5, _ => simp [go_sem]
  | 6, _ => simp [go_sem]
  | 7, _ => simp [go_sem]
  | 8, _ => simp [go_sem]
  | 9, _ => simp [go_sem]
  | 10, _ => simp [go_sem]
  | 11, _ => simp [go_sem]
  | 12, _ => simp [go_sem]
  | 13, _ => simp [go_sem]
  | 14, _ => simp [go_sem]
  | 15, _ => simp [go_sem]
  | n + 16, h => omega

theorem rd_low {W : World} {b S : Nat} (h : Lies16 W b S) : Rd mk64 W (.slice (some ⟨b, 0, none⟩) 8 16) ((List.range 8).map (dgl S)) := by
  refine ⟨_, 16, by simp, by simp, by simp [maxLen], .inr ⟨b, 0, rfl, h.2, fun i hi => ?_⟩⟩
  have hi8 : i < 8 := by simpa using hi
  rw [Nat.zero_add, h.1 i (by omega)]
  have : dg ((List.range 8).map (dgl S)) i = dgl S i := by simp [dg, hi8]
  rw [this]; rfl
theorem rd_part {W : World} {b S p : Nat} (h : Lies16 W b S) (hp : p ≤ 16) : Rd mk64 W (.slice (some ⟨b, p, none⟩) (16 - p : Nat) (16 - p : Nat)) ((List.range (16 - p)).map fun i => dgl S (p + i)) := by
  refine ⟨some ⟨b, p, none⟩, 16 - p, by simp, by simp, by simp [maxLen]; omega, ?_⟩
  by_cases h0 : p = 16
  · exact .inl (by simp; omega)
  refine .inr ⟨b, p, rfl, h.2, fun i hi => ?_⟩
  have hi8 : i < 16 - p := by simpa using hi
  rw [h.1 (p + i) (by omega)]
  have : dg ((List.range (16 - p)).map fun i => dgl S (p + i)) i = dgl S (p + i) := by simp [dg, hi8]
  rw [this]; rfl
theorem of_low (S b : Nat) (W : World) (h : Lies16 W b S) : Calls Try.prog 66 #[.slice (some ⟨b, 0, none⟩) 8 16] W fun e w' => e = .returned (.agg #[.int .u64 (dgl (S) 0 : Nat), .int .u64 (dgl (S) 1 : Nat), .int .u64 (dgl (S) 2 : Nat), .int .u64 (dgl (S) 3 : Nat), .int .u64 (dgl (S) 4 : Nat), .int .u64 (dgl (S) 5 : Nat), .int .u64 (dgl (S) 6 : Nat), .int .u64 (dgl (S) 7 : Nat)]) ∧ Below W.heap.size W w' :=
  wideOf_any _ S _ W (rd_low h) (fun i hi => by simp [dg, hi])
theorem of_high (S b : Nat) (W : World) (h : Lies16 W b S) : Calls Try.prog 66 #[.slice (some ⟨b, 8, none⟩) 8 8] W fun e w' => e = .returned (.agg #[.int .u64 (dgl (S / QQ) 0 : Nat), .int .u64 (dgl (S / QQ) 1 : Nat), .int .u64 (dgl (S / QQ) 2 : Nat), .int .u64 (dgl (S / QQ) 3 : Nat), .int .u64 (dgl (S / QQ) 4 : Nat), .int .u64 (dgl (S / QQ) 5 : Nat), .int .u64 (dgl (S / QQ) 6 : Nat), .int .u64 (dgl (S / QQ) 7 : Nat)]) ∧ Below W.heap.size W w' :=
  wideOf_any _ (S / QQ) _ W (rd_part (p := 8) h (by omega)) (fun i hi => by rw [← dgl_high]; simp [dg, hi])

structure HalfSt (w : World) (S : Nat) (f1 f2 : Nat → Nat) (W : World) : Prop where
  lp : Lies16 W w.heap.size S
  l1 : LiesF W (w.heap.size + 1) f1
  f1 : ∀ i, W.frozen? ⟨w.heap.size + 1, i, none⟩ = false
  l2 : LiesF W (w.heap.size + 2) f2
  f2 : ∀ i, W.frozen? ⟨w.heap.size + 2, i, none⟩ = false
  bel : Below w.heap.size w W
theorem HalfSt.below {w : World} {S : Nat} {f1 f2 : Nat → Nat} {W W' : World} (h : HalfSt w S f1 f2 W) (hb : Below W.heap.size W W') : HalfSt w S f1 f2 W' :=
  ⟨h.lp.below hb, h.l1.below hb, fun i => (hb.frozen (p := ⟨w.heap.size + 1, i, none⟩) h.l1.2).trans (h.f1 i), h.l2.below hb, fun i => (hb.frozen (p := ⟨w.heap.size + 2, i, none⟩) h.l2.2).trans (h.f2 i), below_trans h.bel hb⟩
theorem lies_ne {W : World} {b B : Nat} {f : Nat → Nat} {x0 x1 x2 x3 x4 x5 x6 x7 : Value} (h : LiesF W b f) (hne : b ≠ B) : LiesF ((((((((W.setCell ⟨B, 0, none⟩ x0).setCell ⟨B, 1, none⟩ x1).setCell ⟨B, 2, none⟩ x2).setCell ⟨B, 3, none⟩ x3).setCell ⟨B, 4, none⟩ x4).setCell ⟨B, 5, none⟩ x5).setCell ⟨B, 6, none⟩ x6).setCell ⟨B, 7, none⟩ x7) b f := by
  refine ⟨fun i hi => ?_, by simpa using h.2⟩
  have := h.1 i hi
  simp [go_sem, this, hne]
theorem lies16_ne {W : World} {b B S : Nat} {x0 x1 x2 x3 x4 x5 x6 x7 : Value} (h : Lies16 W b S) (hne : b ≠ B) : Lies16 ((((((((W.setCell ⟨B, 0, none⟩ x0).setCell ⟨B, 1, none⟩ x1).setCell ⟨B, 2, none⟩ x2).setCell ⟨B, 3, none⟩ x3).setCell ⟨B, 4, none⟩ x4).setCell ⟨B, 5, none⟩ x5).setCell ⟨B, 6, none⟩ x6).setCell ⟨B, 7, none⟩ x7) b S := by
  refine ⟨fun i hi => ?_, by simpa using h.2⟩
  have := h.1 i hi
  simp [go_sem, this, hne]
theorem HalfSt.set1 {w : World} {S : Nat} {f1 f2 g : Nat → Nat} {W : World} (h : HalfSt w S f1 f2 W) : HalfSt w S g f2 ((((((((W.setCell ⟨w.heap.size + 1, 0, none⟩ (.int .u64 (g 0 : Nat))).setCell ⟨w.heap.size + 1, 1, none⟩ (.int .u64 (g 1 : Nat))).setCell ⟨w.heap.size + 1, 2, none⟩ (.int .u64 (g 2 : Nat))).setCell ⟨w.heap.size + 1, 3, none⟩ (.int .u64 (g 3 : Nat))).setCell ⟨w.heap.size + 1, 4, none⟩ (.int .u64 (g 4 : Nat))).setCell ⟨w.heap.size + 1, 5, none⟩ (.int .u64 (g 5 : Nat))).setCell ⟨w.heap.size + 1, 6, none⟩ (.int .u64 (g 6 : Nat))).setCell ⟨w.heap.size + 1, 7, none⟩ (.int .u64 (g 7 : Nat))) :=
  ⟨lies16_ne h.lp (by omega), set8_same W _ g f1 h.l1, fun i => by simpa [go_sem] using h.f1 i, lies_ne h.l2 (by omega), fun i => by simpa [go_sem] using h.f2 i, below_set8 h.bel _ (by omega) _ _ _ _ _ _ _ _⟩
theorem HalfSt.set2 {w : World} {S : Nat} {f1 f2 g : Nat → Nat} {W : World} (h : HalfSt w S f1 f2 W) : HalfSt w S f1 g ((((((((W.setCell ⟨w.heap.size + 2, 0, none⟩ (.int .u64 (g 0 : Nat))).setCell ⟨w.heap.size + 2, 1, none⟩ (.int .u64 (g 1 : Nat))).setCell ⟨w.heap.size + 2, 2, none⟩ (.int .u64 (g 2 : Nat))).setCell ⟨w.heap.size + 2, 3, none⟩ (.int .u64 (g 3 : Nat))).setCell ⟨w.heap.size + 2, 4, none⟩ (.int .u64 (g 4 : Nat))).setCell ⟨w.heap.size + 2, 5, none⟩ (.int .u64 (g 5 : Nat))).setCell ⟨w.heap.size + 2, 6, none⟩ (.int .u64 (g 6 : Nat))).setCell ⟨w.heap.size + 2, 7, none⟩ (.int .u64 (g 7 : Nat))) :=
  ⟨lies16_ne h.lp (by omega), lies_ne h.l1 (by omega), fun i => by simpa [go_sem] using h.f1 i, set8_same W _ g f2 h.l2, fun i => by simpa [go_sem] using h.f2 i, below_set8 h.bel _ (by omega) _ _ _ _ _ _ _ _⟩
theorem HalfSt.start (w : World) (S : Nat) : HalfSt w S (fun _ => 0) (fun _ => 0) (((w.alloc (.cells #[.int .u64 (dgl (S) 0 : Nat), .int .u64 (dgl (S) 1 : Nat), .int .u64 (dgl (S) 2 : Nat), .int .u64 (dgl (S) 3 : Nat), .int .u64 (dgl (S) 4 : Nat), .int .u64 (dgl (S) 5 : Nat), .int .u64 (dgl (S) 6 : Nat), .int .u64 (dgl (S) 7 : Nat), .int .u64 (dgl (S) 8 : Nat), .int .u64 (dgl (S) 9 : Nat), .int .u64 (dgl (S) 10 : Nat), .int .u64 (dgl (S) 11 : Nat), .int .u64 (dgl (S) 12 : Nat), .int .u64 (dgl (S) 13 : Nat), .int .u64 (dgl (S) 14 : Nat), .int .u64 (dgl (S) 15 : Nat)] 119)).alloc (.cells #[.int .u64 0, .int .u64 0, .int .u64 0, .int .u64 0, .int .u64 0, .int .u64 0, .int .u64 0, .int .u64 0] 32)).alloc (.cells #[.int .u64 0, .int .u64 0, .int .u64 0, .int .u64 0, .int .u64 0, .int .u64 0, .int .u64 0, .int .u64 0] 32)) := by
  have h1 := (liesF_new (w.alloc (.cells #[.int .u64 (dgl (S) 0 : Nat), .int .u64 (dgl (S) 1 : Nat), .int .u64 (dgl (S) 2 : Nat), .int .u64 (dgl (S) 3 : Nat), .int .u64 (dgl (S) 4 : Nat), .int .u64 (dgl (S) 5 : Nat), .int .u64 (dgl (S) 6 : Nat), .int .u64 (dgl (S) 7 : Nat), .int .u64 (dgl (S) 8 : Nat), .int .u64 (dgl (S) 9 : Nat), .int .u64 (dgl (S) 10 : Nat), .int .u64 (dgl (S) 11 : Nat), .int .u64 (dgl (S) 12 : Nat), .int .u64 (dgl (S) 13 : Nat), .int .u64 (dgl (S) 14 : Nat), .int .u64 (dgl (S) 15 : Nat)] 119)) (fun _ => 0) 32).alloc (.cells #[.int .u64 0, .int .u64 0, .int .u64 0, .int .u64 0, .int .u64 0, .int .u64 0, .int .u64 0, .int .u64 0] 32)
  have h2 := liesF_new ((w.alloc (.cells #[.int .u64 (dgl (S) 0 : Nat), .int .u64 (dgl (S) 1 : Nat), .int .u64 (dgl (S) 2 : Nat), .int .u64 (dgl (S) 3 : Nat), .int .u64 (dgl (S) 4 : Nat), .int .u64 (dgl (S) 5 : Nat), .int .u64 (dgl (S) 6 : Nat), .int .u64 (dgl (S) 7 : Nat), .int .u64 (dgl (S) 8 : Nat), .int .u64 (dgl (S) 9 : Nat), .int .u64 (dgl (S) 10 : Nat), .int .u64 (dgl (S) 11 : Nat), .int .u64 (dgl (S) 12 : Nat), .int .u64 (dgl (S) 13 : Nat), .int .u64 (dgl (S) 14 : Nat), .int .u64 (dgl (S) 15 : Nat)] 119)).alloc (.cells #[.int .u64 0, .int .u64 0, .int .u64 0, .int .u64 0, .int .u64 0, .int .u64 0, .int .u64 0, .int .u64 0] 32)) (fun _ => 0) 32
  simp only [World.size_alloc] at h1 h2
  exact ⟨((lies16_new w S 119).below (below_allocs _ _)).below (below_allocs _ _), h1, fun i => by simp [go_sem], h2, fun i => by simp [go_sem], below_trans (below_trans (below_allocs _ _) (below_allocs _ _)) (below_allocs _ _)⟩

set_option maxHeartbeats 2000000 in
theorem halves_any (S : Nat) (w : World) :
    Calls Try.prog 80 #[.agg #[.int .u64 (dgl (S) 0 : Nat), .int .u64 (dgl (S) 1 : Nat), .int .u64 (dgl (S) 2 : Nat), .int .u64 (dgl (S) 3 : Nat), .int .u64 (dgl (S) 4 : Nat), .int .u64 (dgl (S) 5 : Nat), .int .u64 (dgl (S) 6 : Nat), .int .u64 (dgl (S) 7 : Nat), .int .u64 (dgl (S) 8 : Nat), .int .u64 (dgl (S) 9 : Nat), .int .u64 (dgl (S) 10 : Nat), .int .u64 (dgl (S) 11 : Nat), .int .u64 (dgl (S) 12 : Nat), .int .u64 (dgl (S) 13 : Nat), .int .u64 (dgl (S) 14 : Nat), .int .u64 (dgl (S) 15 : Nat)]] w fun e w' => e = .returned (.tuple #[.agg #[.int .u64 (dgl (S) 0 : Nat), .int .u64 (dgl (S) 1 : Nat), .int .u64 (dgl (S) 2 : Nat), .int .u64 (dgl (S) 3 : Nat), .int .u64 (dgl (S) 4 : Nat), .int .u64 (dgl (S) 5 : Nat), .int .u64 (dgl (S) 6 : Nat), .int .u64 (dgl (S) 7 : Nat)], .agg #[.int .u64 (dgl (S / QQ) 0 : Nat), .int .u64 (dgl (S / QQ) 1 : Nat), .int .u64 (dgl (S / QQ) 2 : Nat), .int .u64 (dgl (S / QQ) 3 : Nat), .int .u64 (dgl (S / QQ) 4 : Nat), .int .u64 (dgl (S / QQ) 5 : Nat), .int .u64 (dgl (S / QQ) 6 : Nat), .int .u64 (dgl (S / QQ) 7 : Nat)]]) ∧ Below w.heap.size w w' := by
  have HST := hide (HalfSt.start w S)
  go_enter Try.func80, Try.ntmps80
  go_upto_region 1 with fail
  refine wp_gen (fun W => HalfSt w S (fun _ => 0) (fun _ => 0) W) HST.out ?_
  rintro W1 h1
  clear HST
  refine wp_region_store 6 [4, 5] [(4, .slice (some ⟨w.heap.size, 0, none⟩) 8 16), (5, .agg #[.int .u64 (dgl (S) 0 : Nat), .int .u64 (dgl (S) 1 : Nat), .int .u64 (dgl (S) 2 : Nat), .int .u64 (dgl (S) 3 : Nat), .int .u64 (dgl (S) 4 : Nat), .int .u64 (dgl (S) 5 : Nat), .int .u64 (dgl (S) 6 : Nat), .int .u64 (dgl (S) 7 : Nat)]), (6, .slice (some ⟨w.heap.size, 8, none⟩) 8 8), (7, .agg #[.int .u64 (dgl (S / QQ) 0 : Nat), .int .u64 (dgl (S / QQ) 1 : Nat), .int .u64 (dgl (S / QQ) 2 : Nat), .int .u64 (dgl (S / QQ) 3 : Nat), .int .u64 (dgl (S / QQ) 4 : Nat), .int .u64 (dgl (S / QQ) 5 : Nat), .int .u64 (dgl (S / QQ) 6 : Nat), .int .u64 (dgl (S / QQ) 7 : Nat)])]
    (fun bs W => HalfSt w S (bif bs.headD false then dgl S else fun _ => 0) (bif bs.tail.headD false then dgl (S / QQ) else fun _ => 0) W) mixedOk (by kernel_rfl) (by kernel_rfl) (by kernel_rfl) (h1.below (Below.refl _ _).drew) (fun bs W W' h hb => h.below hb) ?_ ?_
  · refine sSt rfl (fun bs => gStep_run rfl ?_) ?_
    · intro ρ W hC hc hf hL
      have e1 : ρ (.tmp 1) = .pointer (some ⟨w.heap.size, 0, none⟩) := hL 1 (by decide +kernel)
      have hl := hC.lp.2
      simp [go_sem, hc, hf, e1, hl]
      exact ⟨Below.refl _ _, rfl⟩
    refine sSt rfl (fun bs => gStep_run rfl ?_) ?_
    · intro ρ W hC hc hf hL
      have e4 : ρ (.tmp 4) = .slice (some ⟨w.heap.size, 0, none⟩) 8 16 := hL 4 (by decide +kernel)
      simp [go_sem, hc, hf, e4]
      refine (of_low S _ _ hC.lp).mono ?_
      rintro e w' ⟨rfl, hb⟩
      exact ⟨_, rfl, by first | exact hb | (subst hb; exact Below.refl _ _), rfl⟩
    refine sSt rfl (fun bs => gStep_run rfl ?_) ?_
    · intro ρ W hC hc hf hL
      have e1 : ρ (.tmp 1) = .pointer (some ⟨w.heap.size, 0, none⟩) := hL 1 (by decide +kernel)
      have hl := hC.lp.2
      simp [go_sem, hc, hf, e1, hl]
      exact ⟨Below.refl _ _, rfl⟩
    refine sSt rfl (fun bs => gStep_run rfl ?_) ?_
    · intro ρ W hC hc hf hL
      have e6 : ρ (.tmp 6) = .slice (some ⟨w.heap.size, 8, none⟩) 8 8 := hL 6 (by decide +kernel)
      simp [go_sem, hc, hf, e6]
      refine (of_high S _ _ hC.lp).mono ?_
      rintro e w' ⟨rfl, hb⟩
      exact ⟨_, rfl, by first | exact hb | (subst hb; exact Below.refl _ _), rfl⟩
    refine sStS rfl ⟨rfl, rfl, ?_⟩ ?_
    · intro φ ρ W hφ hC hc hL
      have e2 : ρ (.tmp 2) = .pointer (some ⟨w.heap.size + 1, 0, none⟩) := hL 2 (by decide +kernel)
      have e5 : ρ (.tmp 5) = .agg #[.int .u64 (dgl (S) 0 : Nat), .int .u64 (dgl (S) 1 : Nat), .int .u64 (dgl (S) 2 : Nat), .int .u64 (dgl (S) 3 : Nat), .int .u64 (dgl (S) 4 : Nat), .int .u64 (dgl (S) 5 : Nat), .int .u64 (dgl (S) 6 : Nat), .int .u64 (dgl (S) 7 : Nat)] := hL 5 (by decide +kernel)
      change HalfSt w S (bif φ 4 then dgl S else fun _ => 0) (bif φ 5 then dgl (S / QQ) else fun _ => 0) W at hC
      rw [hφ] at hC
      have hz := hC.l1.1
      have hzl := hC.l1.2
      have hzf := hC.f1
      simp only [cond_false] at hz
      simp [go_sem, hc, e2, e5, hz, hzf, hzl]
      change HalfSt w S (dgl S) (bif (φ 5 || false) then dgl (S / QQ) else fun _ => 0) _
      rw [Bool.or_false]
      exact hC.set1
    refine sStS rfl ⟨rfl, rfl, ?_⟩ ?_
    · intro φ ρ W hφ hC hc hL
      have e3 : ρ (.tmp 3) = .pointer (some ⟨w.heap.size + 2, 0, none⟩) := hL 3 (by decide +kernel)
      have e7 : ρ (.tmp 7) = .agg #[.int .u64 (dgl (S / QQ) 0 : Nat), .int .u64 (dgl (S / QQ) 1 : Nat), .int .u64 (dgl (S / QQ) 2 : Nat), .int .u64 (dgl (S / QQ) 3 : Nat), .int .u64 (dgl (S / QQ) 4 : Nat), .int .u64 (dgl (S / QQ) 5 : Nat), .int .u64 (dgl (S / QQ) 6 : Nat), .int .u64 (dgl (S / QQ) 7 : Nat)] := hL 7 (by decide +kernel)
      change HalfSt w S (bif φ 4 then dgl S else fun _ => 0) (bif φ 5 then dgl (S / QQ) else fun _ => 0) W at hC
      rw [hφ] at hC
      have hz := hC.l2.1
      have hzl := hC.l2.2
      have hzf := hC.f2
      simp only [cond_false] at hz
      simp [go_sem, hc, e3, e7, hz, hzf, hzl]
      change HalfSt w S (bif (φ 4 || false) then dgl S else fun _ => 0) (dgl (S / QQ)) _
      rw [Bool.or_false]
      exact hC.set2
    exact sSt0
  · intro W hC
    refine gFi 4 rfl ?_
    rintro _ rfl
    refine gFi 5 rfl ?_
    rintro _ rfl
    refine gFi 6 rfl ?_
    rintro _ rfl
    refine gFi 7 rfl ?_
    rintro _ rfl
    refine gFiN rfl ?_
    refine gFiN rfl ?_
    refine gFi0 ?_
    simp only [List.drop_succ_cons, List.drop_zero, Act.put, List.setIfInBounds_toArray, List.set_cons_succ, List.set_cons_zero]
    have hr1 := hC.l1.1
    have hr2 := hC.l2.1
    have HB := hide hC.bel
    clear hC h1
    change ∀ i, i < 8 → W.cell? ⟨w.heap.size + 1, i, none⟩ = some (.int .u64 (dgl S i : Nat)) at hr1
    change ∀ i, i < 8 → W.cell? ⟨w.heap.size + 2, i, none⟩ = some (.int .u64 (dgl (S / QQ) i : Nat)) at hr2
    go_wp2
    exact bodyPost_ret (v := .tuple #[.agg #[.int .u64 (dgl (S) 0 : Nat), .int .u64 (dgl (S) 1 : Nat), .int .u64 (dgl (S) 2 : Nat), .int .u64 (dgl (S) 3 : Nat), .int .u64 (dgl (S) 4 : Nat), .int .u64 (dgl (S) 5 : Nat), .int .u64 (dgl (S) 6 : Nat), .int .u64 (dgl (S) 7 : Nat)], .agg #[.int .u64 (dgl (S / QQ) 0 : Nat), .int .u64 (dgl (S / QQ) 1 : Nat), .int .u64 (dgl (S / QQ) 2 : Nat), .int .u64 (dgl (S / QQ) 3 : Nat), .int .u64 (dgl (S / QQ) 4 : Nat), .int .u64 (dgl (S / QQ) 5 : Nat), .int .u64 (dgl (S / QQ) 6 : Nat), .int .u64 (dgl (S / QQ) 7 : Nat)]]) (by simp [results, Try.results80, go_sem, hr1, hr2]) rfl ⟨rfl, HB.out⟩

theorem all_any (p : Nat) (w : World) : Calls Try.prog 82 #[.int .i64 (p : Nat)] w fun e w' => e = .returned (.bool true) ∧ w' = w := by
  go_enter Try.func82, Try.ntmps82
  go_wp2
  go_ret
  exact ⟨rfl, rfl⟩

theorem summed_all (a b : Nat) (ha : a < QQ) (hb : b < QQ) (w : World) :
    Calls Try.prog 81 #[.agg #[.int .u64 (dgl (a) 0 : Nat), .int .u64 (dgl (a) 1 : Nat), .int .u64 (dgl (a) 2 : Nat), .int .u64 (dgl (a) 3 : Nat), .int .u64 (dgl (a) 4 : Nat), .int .u64 (dgl (a) 5 : Nat), .int .u64 (dgl (a) 6 : Nat), .int .u64 (dgl (a) 7 : Nat)], .agg #[.int .u64 (dgl (b) 0 : Nat), .int .u64 (dgl (b) 1 : Nat), .int .u64 (dgl (b) 2 : Nat), .int .u64 (dgl (b) 3 : Nat), .int .u64 (dgl (b) 4 : Nat), .int .u64 (dgl (b) 5 : Nat), .int .u64 (dgl (b) 6 : Nat), .int .u64 (dgl (b) 7 : Nat)], .func (.func 82) #[] #[]] w fun e w' => e = .returned (.agg #[.int .u64 (dgl (a * b) 0 : Nat), .int .u64 (dgl (a * b) 1 : Nat), .int .u64 (dgl (a * b) 2 : Nat), .int .u64 (dgl (a * b) 3 : Nat), .int .u64 (dgl (a * b) 4 : Nat), .int .u64 (dgl (a * b) 5 : Nat), .int .u64 (dgl (a * b) 6 : Nat), .int .u64 (dgl (a * b) 7 : Nat), .int .u64 (dgl (a * b) 8 : Nat), .int .u64 (dgl (a * b) 9 : Nat), .int .u64 (dgl (a * b) 10 : Nat), .int .u64 (dgl (a * b) 11 : Nat), .int .u64 (dgl (a * b) 12 : Nat), .int .u64 (dgl (a * b) 13 : Nat), .int .u64 (dgl (a * b) 14 : Nat), .int .u64 (dgl (a * b) 15 : Nat)]) ∧ Below w.heap.size w w' := by
  have h := summed_any 82 #[] (fun _ => true) a b w (enters_of Try.func82 (by kernel_rfl) rfl) (fun p wr hp hb => all_any p wr)
  rw [all_mul a b ha hb] at h
  exact h

end Go.Proofs.Yteocibahclpegaa

/- Contracts: prod.Mul, Square, Small. -/
set_option linter.unusedVariables false
set_option linter.unusedSimpArgs false
set_option maxRecDepth 8000
namespace Go.Proofs.Yteocibahclpegaa
open Go.RowKit Plain

/-- The result's block, and that nothing below has changed. -/
structure ResSt (w : World) (r : Nat) (f : Nat → Nat) (W : World) : Prop where
  lr : LiesF W r f
  fr : ∀ i, W.frozen? ⟨r, i, none⟩ = false
  bel : Below w.heap.size w W
theorem ResSt.below {w : World} {r : Nat} {f : Nat → Nat} {W W' : World} (h : ResSt w r f W) (hb : Below W.heap.size W W') : ResSt w r f W' :=
  ⟨h.lr.below hb, fun i => (hb.frozen (p := ⟨r, i, none⟩) h.lr.2).trans (h.fr i), below_trans h.bel hb⟩
theorem ResSt.set8 {w : World} {r : Nat} {f g : Nat → Nat} {W : World} (h : ResSt w r f W) (hr : w.heap.size ≤ r) : ResSt w r g ((((((((W.setCell ⟨r, 0, none⟩ (.int .u64 (g 0 : Nat))).setCell ⟨r, 1, none⟩ (.int .u64 (g 1 : Nat))).setCell ⟨r, 2, none⟩ (.int .u64 (g 2 : Nat))).setCell ⟨r, 3, none⟩ (.int .u64 (g 3 : Nat))).setCell ⟨r, 4, none⟩ (.int .u64 (g 4 : Nat))).setCell ⟨r, 5, none⟩ (.int .u64 (g 5 : Nat))).setCell ⟨r, 6, none⟩ (.int .u64 (g 6 : Nat))).setCell ⟨r, 7, none⟩ (.int .u64 (g 7 : Nat))) :=
  ⟨set8_same W r g f h.lr, fun i => by simpa [go_sem] using h.fr i, below_set8 h.bel _ hr _ _ _ _ _ _ _ _⟩

set_option maxHeartbeats 2000000 in
theorem prodMul_walk (fa fb fl fh : Nat → Nat) (S : Nat) (t : Bool) (w : World)
    (HSUM : Hid (∀ w, Calls Try.prog 81 #[.agg #[.int .u64 (fa 0 : Nat), .int .u64 (fa 1 : Nat), .int .u64 (fa 2 : Nat), .int .u64 (fa 3 : Nat), .int .u64 (fa 4 : Nat), .int .u64 (fa 5 : Nat), .int .u64 (fa 6 : Nat), .int .u64 (fa 7 : Nat)], .agg #[.int .u64 (fb 0 : Nat), .int .u64 (fb 1 : Nat), .int .u64 (fb 2 : Nat), .int .u64 (fb 3 : Nat), .int .u64 (fb 4 : Nat), .int .u64 (fb 5 : Nat), .int .u64 (fb 6 : Nat), .int .u64 (fb 7 : Nat)], .func (.func 82) #[] #[]] w fun e w' => e = .returned (.agg #[.int .u64 (dgl (S) 0 : Nat), .int .u64 (dgl (S) 1 : Nat), .int .u64 (dgl (S) 2 : Nat), .int .u64 (dgl (S) 3 : Nat), .int .u64 (dgl (S) 4 : Nat), .int .u64 (dgl (S) 5 : Nat), .int .u64 (dgl (S) 6 : Nat), .int .u64 (dgl (S) 7 : Nat), .int .u64 (dgl (S) 8 : Nat), .int .u64 (dgl (S) 9 : Nat), .int .u64 (dgl (S) 10 : Nat), .int .u64 (dgl (S) 11 : Nat), .int .u64 (dgl (S) 12 : Nat), .int .u64 (dgl (S) 13 : Nat), .int .u64 (dgl (S) 14 : Nat), .int .u64 (dgl (S) 15 : Nat)]) ∧ Below w.heap.size w w'))
    (HHAL : Hid (∀ w, Calls Try.prog 80 #[.agg #[.int .u64 (dgl (S) 0 : Nat), .int .u64 (dgl (S) 1 : Nat), .int .u64 (dgl (S) 2 : Nat), .int .u64 (dgl (S) 3 : Nat), .int .u64 (dgl (S) 4 : Nat), .int .u64 (dgl (S) 5 : Nat), .int .u64 (dgl (S) 6 : Nat), .int .u64 (dgl (S) 7 : Nat), .int .u64 (dgl (S) 8 : Nat), .int .u64 (dgl (S) 9 : Nat), .int .u64 (dgl (S) 10 : Nat), .int .u64 (dgl (S) 11 : Nat), .int .u64 (dgl (S) 12 : Nat), .int .u64 (dgl (S) 13 : Nat), .int .u64 (dgl (S) 14 : Nat), .int .u64 (dgl (S) 15 : Nat)]] w fun e w' => e = .returned (.tuple #[.agg #[.int .u64 (fl 0 : Nat), .int .u64 (fl 1 : Nat), .int .u64 (fl 2 : Nat), .int .u64 (fl 3 : Nat), .int .u64 (fl 4 : Nat), .int .u64 (fl 5 : Nat), .int .u64 (fl 6 : Nat), .int .u64 (fl 7 : Nat)], .agg #[.int .u64 (fh 0 : Nat), .int .u64 (fh 1 : Nat), .int .u64 (fh 2 : Nat), .int .u64 (fh 3 : Nat), .int .u64 (fh 4 : Nat), .int .u64 (fh 5 : Nat), .int .u64 (fh 6 : Nat), .int .u64 (fh 7 : Nat)]]) ∧ Below w.heap.size w w'))
    (heq : ∀ w, (Op.equalIn 10000 32 (.agg #[.int .u64 (fh 0 : Nat), .int .u64 (fh 1 : Nat), .int .u64 (fh 2 : Nat), .int .u64 (fh 3 : Nat), .int .u64 (fh 4 : Nat), .int .u64 (fh 5 : Nat), .int .u64 (fh 6 : Nat), .int .u64 (fh 7 : Nat)]) (.agg #[.int .u64 0, .int .u64 0, .int .u64 0, .int .u64 0, .int .u64 0, .int .u64 0, .int .u64 0, .int .u64 0])).run Try.prog w = .ok t w) :
    Calls Try.prog 57 #[.agg #[.int .u64 (fa 0 : Nat), .int .u64 (fa 1 : Nat), .int .u64 (fa 2 : Nat), .int .u64 (fa 3 : Nat), .int .u64 (fa 4 : Nat), .int .u64 (fa 5 : Nat), .int .u64 (fa 6 : Nat), .int .u64 (fa 7 : Nat)], .agg #[.int .u64 (fb 0 : Nat), .int .u64 (fb 1 : Nat), .int .u64 (fb 2 : Nat), .int .u64 (fb 3 : Nat), .int .u64 (fb 4 : Nat), .int .u64 (fb 5 : Nat), .int .u64 (fb 6 : Nat), .int .u64 (fb 7 : Nat)]] w fun e w' => e = .returned (.tuple #[.agg #[.int .u64 (fl 0 : Nat), .int .u64 (fl 1 : Nat), .int .u64 (fl 2 : Nat), .int .u64 (fl 3 : Nat), .int .u64 (fl 4 : Nat), .int .u64 (fl 5 : Nat), .int .u64 (fl 6 : Nat), .int .u64 (fl 7 : Nat)], .bool t]) ∧ Below w.heap.size w w' := by
  have HS0 : Hid (ResSt w (w.heap.size + 1 + 1) (fun _ => 0) (((w.alloc (.cells #[.int .u64 (fa 0 : Nat), .int .u64 (fa 1 : Nat), .int .u64 (fa 2 : Nat), .int .u64 (fa 3 : Nat), .int .u64 (fa 4 : Nat), .int .u64 (fa 5 : Nat), .int .u64 (fa 6 : Nat), .int .u64 (fa 7 : Nat)] 32)).alloc (.cells #[.int .u64 (fb 0 : Nat), .int .u64 (fb 1 : Nat), .int .u64 (fb 2 : Nat), .int .u64 (fb 3 : Nat), .int .u64 (fb 4 : Nat), .int .u64 (fb 5 : Nat), .int .u64 (fb 6 : Nat), .int .u64 (fb 7 : Nat)] 32)).alloc (.cells #[.int .u64 0, .int .u64 0, .int .u64 0, .int .u64 0, .int .u64 0, .int .u64 0, .int .u64 0, .int .u64 0] 32))) := by
    have h2 := liesF_new ((w.alloc (.cells #[.int .u64 (fa 0 : Nat), .int .u64 (fa 1 : Nat), .int .u64 (fa 2 : Nat), .int .u64 (fa 3 : Nat), .int .u64 (fa 4 : Nat), .int .u64 (fa 5 : Nat), .int .u64 (fa 6 : Nat), .int .u64 (fa 7 : Nat)] 32)).alloc (.cells #[.int .u64 (fb 0 : Nat), .int .u64 (fb 1 : Nat), .int .u64 (fb 2 : Nat), .int .u64 (fb 3 : Nat), .int .u64 (fb 4 : Nat), .int .u64 (fb 5 : Nat), .int .u64 (fb 6 : Nat), .int .u64 (fb 7 : Nat)] 32)) (fun _ => 0) 32
    simp only [World.size_alloc] at h2
    exact ⟨h2, fun i => by simp [go_sem], below_trans (below_trans (below_allocs _ _) (below_allocs _ _)) (below_allocs _ _)⟩
  go_enter Try.func57, Try.ntmps57
  go_wp2_with fail
  refine (HSUM.out _).mono ?_
  rintro e w1 ⟨rfl, hb1⟩
  have HS1 := hide (HS0.out.below hb1)
  clear HS0 hb1
  go_wp2_with fail
  refine (HHAL.out _).mono ?_
  rintro e w2 ⟨rfl, hb2⟩
  have HS2 := hide (HS1.out.below hb2)
  clear HS1 hb2
  go_upto_region 2 with fail
  refine wp_gen (fun W => ResSt w (w.heap.size + 1 + 1) (fun _ => 0) W ∧ LiesF W w2.heap.size fl ∧ LiesF W (w2.heap.size + 1) fh) ?_ ?_
  · have h3 := liesF_new (w2.alloc (.cells #[.int .u64 (fl 0 : Nat), .int .u64 (fl 1 : Nat), .int .u64 (fl 2 : Nat), .int .u64 (fl 3 : Nat), .int .u64 (fl 4 : Nat), .int .u64 (fl 5 : Nat), .int .u64 (fl 6 : Nat), .int .u64 (fl 7 : Nat)] 32)) fh 32
    rw [World.size_alloc] at h3
    exact ⟨(HS2.out.below (below_allocs _ _)).below (below_allocs _ _), (liesF_new w2 fl 32).alloc _, h3⟩
  rintro W2 h2
  have hp6 : w.heap.size + 1 + 1 < w2.heap.size := HS2.out.lr.2
  generalize hp : w2.heap.size = p6 at *
  obtain ⟨p7, hp7⟩ : ∃ p7, p6 + 1 = p7 := ⟨_, rfl⟩
  rw [hp7] at h2 ⊢
  clear HS2 hp
  refine wp_region_store 5 [4] [(15, .agg #[.int .u64 (fl 0 : Nat), .int .u64 (fl 1 : Nat), .int .u64 (fl 2 : Nat), .int .u64 (fl 3 : Nat), .int .u64 (fl 4 : Nat), .int .u64 (fl 5 : Nat), .int .u64 (fl 6 : Nat), .int .u64 (fl 7 : Nat)]), (16, .agg #[.int .u64 (fh 0 : Nat), .int .u64 (fh 1 : Nat), .int .u64 (fh 2 : Nat), .int .u64 (fh 3 : Nat), .int .u64 (fh 4 : Nat), .int .u64 (fh 5 : Nat), .int .u64 (fh 6 : Nat), .int .u64 (fh 7 : Nat)]), (17, .agg #[.int .u64 0, .int .u64 0, .int .u64 0, .int .u64 0, .int .u64 0, .int .u64 0, .int .u64 0, .int .u64 0]), (18, .bool t)]
    (fun bs W => ResSt w (w.heap.size + 1 + 1) (bif bs.headD false then fl else fun _ => 0) W ∧ LiesF W p6 fl ∧ LiesF W p7 fh) mixedOk (by kernel_rfl) (by kernel_rfl) (by kernel_rfl) (⟨h2.1.below (Below.refl _ _).drew, h2.2.1, h2.2.2⟩) (fun bs W W' h hb => ⟨h.1.below hb, h.2.1.below hb, h.2.2.below hb⟩) ?_ ?_
  · refine sSt rfl (fun bs => gStep_run rfl ?_) ?_
    · intro ρ W hC hc hf hL
      have e6 : ρ (.tmp 6) = .pointer (some ⟨p6, 0, none⟩) := hL 6 (by decide +kernel)
      have hl := hC.2.1.1
      simp [go_sem, hc, hf, e6, hl]
      exact ⟨Below.refl _ _, rfl⟩
    refine sSt rfl (fun bs => gStep_run rfl ?_) ?_
    · intro ρ W hC hc hf hL
      have e7 : ρ (.tmp 7) = .pointer (some ⟨p7, 0, none⟩) := hL 7 (by decide +kernel)
      have hl := hC.2.2.1
      simp [go_sem, hc, hf, e7, hl]
      exact ⟨Below.refl _ _, rfl⟩
    refine sSt rfl (fun bs => gStep_run rfl ?_) ?_
    · intro ρ W hC hc hf hL
      simp [go_sem, hc, hf]
      exact ⟨Below.refl _ _, rfl⟩
    refine sSt rfl (fun bs => gStep_run rfl ?_) ?_
    · intro ρ W hC hc hf hL
      have e16 : ρ (.tmp 16) = .agg #[.int .u64 (fh 0 : Nat), .int .u64 (fh 1 : Nat), .int .u64 (fh 2 : Nat), .int .u64 (fh 3 : Nat), .int .u64 (fh 4 : Nat), .int .u64 (fh 5 : Nat), .int .u64 (fh 6 : Nat), .int .u64 (fh 7 : Nat)] := hL 16 (by decide +kernel)
      have e17 : ρ (.tmp 17) = .agg #[.int .u64 0, .int .u64 0, .int .u64 0, .int .u64 0, .int .u64 0, .int .u64 0, .int .u64 0, .int .u64 0] := hL 17 (by decide +kernel)
      simp [go_sem, hc, hf, e16, e17, heq]
      exact ⟨Below.refl _ _, rfl⟩
    refine sStS rfl ⟨rfl, rfl, ?_⟩ ?_
    · intro φ ρ W hφ hC hc hL
      have e4 : ρ (.tmp 4) = .pointer (some ⟨w.heap.size + 1 + 1, 0, none⟩) := hL 4 (by decide +kernel)
      have e15 : ρ (.tmp 15) = .agg #[.int .u64 (fl 0 : Nat), .int .u64 (fl 1 : Nat), .int .u64 (fl 2 : Nat), .int .u64 (fl 3 : Nat), .int .u64 (fl 4 : Nat), .int .u64 (fl 5 : Nat), .int .u64 (fl 6 : Nat), .int .u64 (fl 7 : Nat)] := hL 15 (by decide +kernel)
      simp only [List.map_cons, List.map_nil, List.headD_cons, hφ, cond_false] at hC
      have hz := hC.1.lr.1
      have hzl := hC.1.lr.2
      have hzf := hC.1.fr
      simp [go_sem, hc, e4, e15, hz, hzf, hzl]
      exact ⟨hC.1.set8 (by omega), lies_ne hC.2.1 (by omega), lies_ne hC.2.2 (by omega)⟩
    exact sSt0
  · intro W hC
    refine gFi 15 rfl ?_
    rintro _ rfl
    refine gFi 16 rfl ?_
    rintro _ rfl
    refine gFi 17 rfl ?_
    rintro _ rfl
    refine gFi 18 rfl ?_
    rintro _ rfl
    refine gFiN rfl ?_
    refine gFi0 ?_
    simp only [List.drop_succ_cons, List.drop_zero, Act.put, List.setIfInBounds_toArray, List.set_cons_succ, List.set_cons_zero]
    have hr := hC.1.lr.1
    have HB := hide hC.1.bel
    clear hC h2
    change ∀ i, i < 8 → W.cell? ⟨w.heap.size + 1 + 1, i, none⟩ = some (.int .u64 (fl i : Nat)) at hr
    go_wp2
    exact bodyPost_ret (v := .tuple #[.agg #[.int .u64 (fl 0 : Nat), .int .u64 (fl 1 : Nat), .int .u64 (fl 2 : Nat), .int .u64 (fl 3 : Nat), .int .u64 (fl 4 : Nat), .int .u64 (fl 5 : Nat), .int .u64 (fl 6 : Nat), .int .u64 (fl 7 : Nat)], .bool t]) (by simp [results, Try.results57, go_sem, hr]) rfl ⟨rfl, HB.out⟩

theorem dgl_z : (dgl 0) = fun _ => 0 := funext dgl_zero
theorem wide_eqz {a : Nat} (ha : a < QQ) (w : World) : (Op.equalIn 10000 32 (.agg #[.int .u64 (dgl (a) 0 : Nat), .int .u64 (dgl (a) 1 : Nat), .int .u64 (dgl (a) 2 : Nat), .int .u64 (dgl (a) 3 : Nat), .int .u64 (dgl (a) 4 : Nat), .int .u64 (dgl (a) 5 : Nat), .int .u64 (dgl (a) 6 : Nat), .int .u64 (dgl (a) 7 : Nat)]) (.agg #[.int .u64 0, .int .u64 0, .int .u64 0, .int .u64 0, .int .u64 0, .int .u64 0, .int .u64 0, .int .u64 0])).run Try.prog w = .ok (decide (a = 0)) w := by
  have h := wide_eqb ha (show 0 < QQ by omega) w
  simp only [dgl_zero] at h
  exact h
theorem qq_mul_lt {a b : Nat} (ha : a < QQ) (hb : b < QQ) : a * b / QQ < QQ := by
  have h : a * b < QQ * QQ := Nat.mul_lt_mul_of_lt_of_lt ha hb
  exact Nat.div_lt_of_lt_mul h
theorem prodMul_any (a b : Nat) (ha : a < QQ) (hb : b < QQ) (w : World) :
    Calls Try.prog 57 #[.agg #[.int .u64 (dgl (a) 0 : Nat), .int .u64 (dgl (a) 1 : Nat), .int .u64 (dgl (a) 2 : Nat), .int .u64 (dgl (a) 3 : Nat), .int .u64 (dgl (a) 4 : Nat), .int .u64 (dgl (a) 5 : Nat), .int .u64 (dgl (a) 6 : Nat), .int .u64 (dgl (a) 7 : Nat)], .agg #[.int .u64 (dgl (b) 0 : Nat), .int .u64 (dgl (b) 1 : Nat), .int .u64 (dgl (b) 2 : Nat), .int .u64 (dgl (b) 3 : Nat), .int .u64 (dgl (b) 4 : Nat), .int .u64 (dgl (b) 5 : Nat), .int .u64 (dgl (b) 6 : Nat), .int .u64 (dgl (b) 7 : Nat)]] w fun e w' => e = .returned (.tuple #[.agg #[.int .u64 (dgl (a * b) 0 : Nat), .int .u64 (dgl (a * b) 1 : Nat), .int .u64 (dgl (a * b) 2 : Nat), .int .u64 (dgl (a * b) 3 : Nat), .int .u64 (dgl (a * b) 4 : Nat), .int .u64 (dgl (a * b) 5 : Nat), .int .u64 (dgl (a * b) 6 : Nat), .int .u64 (dgl (a * b) 7 : Nat)], .bool (decide (a * b < QQ))]) ∧ Below w.heap.size w w' := by
  have hq : decide (a * b / QQ = 0) = decide (a * b < QQ) := by
    rw [decide_eq_decide]
    exact Nat.div_eq_zero_iff_lt (by omega)
  rw [← hq]
  exact prodMul_walk (dgl a) (dgl b) (dgl (a * b)) (dgl (a * b / QQ)) (a * b) _ w (fun w => summed_all a b ha hb w) (fun w => halves_any (a * b) w) (fun w => wide_eqz (qq_mul_lt ha hb) w)

end Go.Proofs.Yteocibahclpegaa

/- Contracts: prod.Square, Small, Sum. -/
set_option linter.unusedVariables false
set_option linter.unusedSimpArgs false
set_option maxRecDepth 8000
namespace Go.Proofs.Yteocibahclpegaa
open Go.RowKit Plain

def SlotIs.rd (l : List Nat) : SlotIs := ⟨fun v w => Rd mk64 w v l, fun v w w' hb h => h.below hb⟩

set_option maxHeartbeats 1000000 in
theorem prodSquare_any (a : Nat) (ha : a < QQ) (w : World) :
    Calls Try.prog 62 #[.agg #[.int .u64 (dgl (a) 0 : Nat), .int .u64 (dgl (a) 1 : Nat), .int .u64 (dgl (a) 2 : Nat), .int .u64 (dgl (a) 3 : Nat), .int .u64 (dgl (a) 4 : Nat), .int .u64 (dgl (a) 5 : Nat), .int .u64 (dgl (a) 6 : Nat), .int .u64 (dgl (a) 7 : Nat)]] w fun e w' => e = .returned (.tuple #[.agg #[.int .u64 (dgl (a * a) 0 : Nat), .int .u64 (dgl (a * a) 1 : Nat), .int .u64 (dgl (a * a) 2 : Nat), .int .u64 (dgl (a * a) 3 : Nat), .int .u64 (dgl (a * a) 4 : Nat), .int .u64 (dgl (a * a) 5 : Nat), .int .u64 (dgl (a * a) 6 : Nat), .int .u64 (dgl (a * a) 7 : Nat)], .bool (decide (a * a < QQ))]) ∧ Below w.heap.size w w' := by
  have HM := hide (fun w => prodMul_any a a ha ha w)
  generalize decide (a * a < QQ) = t at *
  have HST := hide (shrSt_start (dgl a) w)
  clear ha
  go_enter Try.func62, Try.ntmps62
  go_wp2_with fail
  refine (HM.out _).mono ?_
  rintro e w1 ⟨rfl, hb1⟩
  replace HST := hide (HST.out.below hb1)
  have hr := HST.out.lr.1
  have hrf := HST.out.fr
  have hl := HST.out.lr.2
  have HB := hide HST.out.bel
  clear hb1 HST
  go_wp2
  exact bodyPost_ret (v := .tuple #[.agg #[.int .u64 (dgl (a * a) 0 : Nat), .int .u64 (dgl (a * a) 1 : Nat), .int .u64 (dgl (a * a) 2 : Nat), .int .u64 (dgl (a * a) 3 : Nat), .int .u64 (dgl (a * a) 4 : Nat), .int .u64 (dgl (a * a) 5 : Nat), .int .u64 (dgl (a * a) 6 : Nat), .int .u64 (dgl (a * a) 7 : Nat)], .bool t]) (by simp [results, Try.results62, go_sem, hr, hl]) rfl ⟨rfl, below_set8 HB.out _ (by omega) _ _ _ _ _ _ _ _⟩

theorem ll_lt_qq {n : Nat} (h : n < 18446744073709551616) : n < QQ := Nat.lt_of_lt_of_le h (by unfold QQ; exact Nat.le_self_pow (by decide) _)

/-- A slice of wides. -/
def RdW (w : World) (v : Value) (l : List Nat) : Prop :=
  ∃ ao cap, v = .slice ao l.length cap ∧ l.length ≤ cap ∧ cap ≤ maxLen ∧
    (l.length = 0 ∨ ∃ b off, ao = some ⟨b, off, none⟩ ∧ b < w.heap.size ∧ ∀ i j, i < l.length → j < 8 → w.cell? ⟨b, off + i * 8 + j, none⟩ = some (.int .u64 (dgl (dg l i) j : Nat)))
def sumN (l : List Nat) : Nat → Nat
  | 0 => 0
  | k + 1 => sumN l k + dg l k

structure SumLSt (w : World) (s : Nat) (wr : World) : Prop where
  lr : LiesF wr w.heap.size (fun _ => 0)
  fr : ∀ i, wr.frozen? ⟨w.heap.size, i, none⟩ = false
  ls : LiesF wr (w.heap.size + 1) (dgl s)
  fs : ∀ i, wr.frozen? ⟨w.heap.size + 1, i, none⟩ = false
  bel : Below w.heap.size w wr
theorem SumLSt.below {w : World} {s : Nat} {W W' : World} (h : SumLSt w s W) (hb : Below W.heap.size W W') : SumLSt w s W' :=
  ⟨h.lr.below hb, fun i => (hb.frozen (p := ⟨w.heap.size, i, none⟩) h.lr.2).trans (h.fr i), h.ls.below hb, fun i => (hb.frozen (p := ⟨w.heap.size + 1, i, none⟩) h.ls.2).trans (h.fs i), below_trans h.bel hb⟩
theorem SumLSt.set8 {w : World} {s t : Nat} {W : World} (h : SumLSt w s W) : SumLSt w t (((((((((W.setCell ⟨w.heap.size + 1, 0, none⟩ (.int .u64 (dgl t 0 : Nat))).setCell ⟨w.heap.size + 1, 1, none⟩ (.int .u64 (dgl t 1 : Nat))).setCell ⟨w.heap.size + 1, 2, none⟩ (.int .u64 (dgl t 2 : Nat))).setCell ⟨w.heap.size + 1, 3, none⟩ (.int .u64 (dgl t 3 : Nat))).setCell ⟨w.heap.size + 1, 4, none⟩ (.int .u64 (dgl t 4 : Nat))).setCell ⟨w.heap.size + 1, 5, none⟩ (.int .u64 (dgl t 5 : Nat))).setCell ⟨w.heap.size + 1, 6, none⟩ (.int .u64 (dgl t 6 : Nat))).setCell ⟨w.heap.size + 1, 7, none⟩ (.int .u64 (dgl t 7 : Nat)))) :=
  ⟨lies_ne h.lr (by omega), fun i => by simpa [go_sem] using h.fr i, set8_same W _ (dgl t) (dgl s) h.ls, fun i => by simpa [go_sem] using h.fs i, below_set8 h.bel _ (by omega) _ _ _ _ _ _ _ _⟩

set_option maxHeartbeats 2000000 in
theorem prodSum_any (l : List Nat) (v : Value) (w : World) (hr : RdW w v l) (hl : ∀ i, dg l i < QQ) :
    Calls Try.prog 85 #[v] w fun e w' => e = .returned (.agg #[.int .u64 (dgl (sumN l l.length) 0 : Nat), .int .u64 (dgl (sumN l l.length) 1 : Nat), .int .u64 (dgl (sumN l l.length) 2 : Nat), .int .u64 (dgl (sumN l l.length) 3 : Nat), .int .u64 (dgl (sumN l l.length) 4 : Nat), .int .u64 (dgl (sumN l l.length) 5 : Nat), .int .u64 (dgl (sumN l l.length) 6 : Nat), .int .u64 (dgl (sumN l l.length) 7 : Nat)]) ∧ Below w.heap.size w w' := by
  obtain ⟨ao, ca, rfl, hca, hma, hra⟩ := hr
  unfold maxLen at hma
  have HRA := hide hra
  have HL := hide hl
  clear hra hl
  have HADD := hide (fun (s x : Nat) (hx : x < QQ) w => wideAdd_any (s % QQ) x (Nat.mod_lt _ (by omega)) hx w)
  have HS0 : Hid (SumLSt w 0 ((w.alloc (.cells #[.int .u64 0, .int .u64 0, .int .u64 0, .int .u64 0, .int .u64 0, .int .u64 0, .int .u64 0, .int .u64 0] 32)).alloc (.cells #[.int .u64 0, .int .u64 0, .int .u64 0, .int .u64 0, .int .u64 0, .int .u64 0, .int .u64 0, .int .u64 0] 32))) := by
    have h1 := (liesF_new w (fun _ => 0) 32).alloc (.cells #[.int .u64 0, .int .u64 0, .int .u64 0, .int .u64 0, .int .u64 0, .int .u64 0, .int .u64 0, .int .u64 0] 32)
    have h2 := liesF_new (w.alloc (.cells #[.int .u64 0, .int .u64 0, .int .u64 0, .int .u64 0, .int .u64 0, .int .u64 0, .int .u64 0, .int .u64 0] 32)) (fun _ => 0) 32
    rw [World.size_alloc] at h2
    exact ⟨h1, fun i => by simp [go_sem], by rw [dgl_z]; exact h2, fun i => by simp [go_sem], below_trans (below_allocs _ _) (below_allocs _ _)⟩
  generalize hn : l.length = n at *
  have HN := hide hn
  clear hn
  go_enter Try.func85, Try.ntmps85
  go_wp2
  go_loopw [8] (fun i wr => ∃ k : Nat, k ≤ n ∧ i = .int .i64 k ∧ Hid (SumLSt w (sumN l k) wr))
    (fun i _ => n - (intOf i).toNat)
  case atStart => exact ⟨0, by omega, rfl, HS0.out⟩
  case round =>
    clear HS0
    obtain ⟨k, hk, rfl, hst⟩ := hrel
    by_cases hlt : k < n
    · have hj : (k : Int) < (n : Int) := by omega
      rcases unhide HRA with hc | ⟨b, off, rfl, hbl, hcell⟩
      · omega
      · have hck : ∀ j, j < 8 → wr.cell? ⟨b, off + k * 8 + j, none⟩ = some (.int .u64 (dgl (dg l k) j : Nat)) := fun j hj => (hst.out.bel.cell (p := ⟨b, off + k * 8 + j, none⟩) hbl).trans (hcell k j hlt hj)
        have hck0 := hck 0 (by decide)
        rw [Nat.add_zero] at hck0
        have hcs := hst.out.ls.1
        have HX := hide (HL.out k)
        have HSUM := hide (show sumN l (k + 1) = sumN l k + dg l k from rfl)
        clear hcell
        generalize dg l k = x at *
        generalize sumN l k = s at *
        go_upto_region 5 with fail
        refine wp_gen (fun W => SumLSt w s W ∧ LiesF W wr.heap.size (dgl x)) ⟨hst.out.below (below_allocs _ _), liesF_new _ _ _⟩ ?_
        rintro W5 ⟨h5, h5x⟩
        have hcs := h5.ls.1
        have hcx := h5x.1
        have HS5 := hide h5
        clear h5 h5x hck hck0 hst
        have hadd := fun w => HADD.out s x HX.out w
        rw [w8_mod (Nat.mod_mod s QQ), w8_mod (show (s % QQ + x) % QQ = (s + x) % QQ by rw [Nat.mod_add_mod])] at hadd
        have HA2 := hide hadd
        clear hadd
        generalize decide (QQ ≤ s % QQ + x) = o at *
        generalize wr.heap.size = p5 at *
        go_wp2_with fail
        refine (HA2.out _).mono ?_
        rintro e w6 ⟨rfl, hb6⟩
        replace HS5 := hide (HS5.out.below hb6)
        have hcs := HS5.out.ls.1
        have hfs := HS5.out.fs
        have hls := HS5.out.ls.2
        clear hb6 hcx
        go_wp2
        go_roundw
        case rel => exact ⟨k + 1, by omega, by go_num, by rw [HSUM.out]; exact HS5.out.set8⟩
        case measure => simp [intOf]; omega
    · have hk2 : k = n := by omega
      subst hk2
      have hcs := hst.out.ls.1
      have hr := hst.out.lr.1
      have hrf := hst.out.fr
      have hl := hst.out.lr.2
      have HB := hide hst.out.bel
      clear hst
      have hj : ¬ (k : Int) < (k : Int) := by omega
      go_wp2
      exact bodyPost_ret (v := .agg #[.int .u64 (dgl (sumN l k) 0 : Nat), .int .u64 (dgl (sumN l k) 1 : Nat), .int .u64 (dgl (sumN l k) 2 : Nat), .int .u64 (dgl (sumN l k) 3 : Nat), .int .u64 (dgl (sumN l k) 4 : Nat), .int .u64 (dgl (sumN l k) 5 : Nat), .int .u64 (dgl (sumN l k) 6 : Nat), .int .u64 (dgl (sumN l k) 7 : Nat)]) (by simp [results, Try.results85, go_sem, hr, hl]) rfl ⟨rfl, below_set8 HB.out _ (by omega) _ _ _ _ _ _ _ _⟩

end Go.Proofs.Yteocibahclpegaa

/- Picks whose constant stands first; slices of wides across stores. -/
set_option linter.unusedVariables false
set_option linter.unusedSimpArgs false
set_option maxRecDepth 8000
namespace Go.Proofs.Yteocibahclpegaa
open Go.RowKit Plain

section
variable {ops : Array Oper} {a : Act} {T : List (Nat × SlotIs)} {C : World → Prop} {o : Oper}
theorem gRun_pickCT {looks : List Tmp} (c d : Tmp) (x : Value) (y : Operand) (ho : o.op = .pick (.tmp c) (.const x) y) (hd : o.dst = some d) (hcm : c ∈ looks)
    (hT : ∀ v w, tbl a c T v w → v = .bool true) (h : ∀ w, tbl a d T x w) : gRun a T C o looks := by
  intro ρ w hC hc hf hL
  have hr : (execOp ρ o).run Try.prog w = .ok (.value x) w := by
    obtain ⟨dst, op, type, pos, after, guard⟩ := o
    simp only at ho; subst ho
    have := hT _ _ (hL c hcm)
    simp [execOp, this, go_sem, hc]
  rw [hr]
  refine ⟨Below.refl _ _, ?_⟩
  rw [hd]
  exact h _
theorem gRun_pickCF {looks : List Tmp} (c y d : Tmp) (x : Operand) (ho : o.op = .pick (.tmp c) x (.tmp y)) (hd : o.dst = some d) (hcm : c ∈ looks) (hym : y ∈ looks)
    (hT : ∀ v w, tbl a c T v w → v = .bool false) (h : ∀ v w, tbl a y T v w → tbl a d T v w) : gRun a T C o looks := by
  intro ρ w hC hc hf hL
  have hr : (execOp ρ o).run Try.prog w = .ok (.value (ρ (.tmp y))) w := by
    obtain ⟨dst, op, type, pos, after, guard⟩ := o
    simp only at ho; subst ho
    have := hT _ _ (hL c hcm)
    simp [execOp, this, go_sem]
  rw [hr]
  refine ⟨Below.refl _ _, ?_⟩
  rw [hd]
  exact h _ _ (hL y hym)
end

/-- Only the block r may have changed. -/
def OnlyAt (r : Nat) (w w' : World) : Prop := w.heap.size ≤ w'.heap.size ∧ ∀ b i, b ≠ r → w'.cell? ⟨b, i, none⟩ = w.cell? ⟨b, i, none⟩
theorem onlyAt_set8 (W : World) (r : Nat) (x0 x1 x2 x3 x4 x5 x6 x7 : Value) : OnlyAt r W ((((((((W.setCell ⟨r, 0, none⟩ x0).setCell ⟨r, 1, none⟩ x1).setCell ⟨r, 2, none⟩ x2).setCell ⟨r, 3, none⟩ x3).setCell ⟨r, 4, none⟩ x4).setCell ⟨r, 5, none⟩ x5).setCell ⟨r, 6, none⟩ x6).setCell ⟨r, 7, none⟩ x7) :=
  ⟨by simp, fun b i hne => by simp [go_sem, hne]⟩

/-- A slice of wides of the call's own. -/
def SlotIs.wides (r : Nat) (l : List Nat) : SlotIs :=
  ⟨fun v w => ∃ b, v = .slice (some ⟨b, 0, none⟩) l.length l.length ∧ r < b ∧ b < w.heap.size ∧ ∀ i j, i < l.length → j < 8 → w.cell? ⟨b, i * 8 + j, none⟩ = some (.int .u64 (dgl (dg l i) j : Nat)),
   fun v w w' hb ⟨b, h1, h2, h3, h4⟩ => ⟨b, h1, h2, Nat.lt_of_lt_of_le h3 hb.size, fun i j hi hj => (hb.cell (p := ⟨b, i * 8 + j, none⟩) h3).trans (h4 i j hi hj)⟩⟩
theorem wides_keep {r : Nat} {l : List Nat} {v : Value} {w w' : World} (hg : OnlyAt r w w') (h : (SlotIs.wides r l).R v w) : (SlotIs.wides r l).R v w' := by
  obtain ⟨b, h1, h2, h3, h4⟩ := h
  exact ⟨b, h1, h2, Nat.lt_of_lt_of_le h3 hg.1, fun i j hi hj => (hg.2 b _ (by omega)).trans (h4 i j hi hj)⟩
theorem wides_rd {r : Nat} {l : List Nat} {v : Value} {w : World} (hl : l.length ≤ 1000) (h : (SlotIs.wides r l).R v w) : RdW w v l := by
  obtain ⟨b, h1, h2, h3, h4⟩ := h
  exact ⟨some ⟨b, 0, none⟩, l.length, h1, Nat.le_refl _, by unfold maxLen; omega, .inr ⟨b, 0, rfl, h3, fun i j hi hj => by rw [Nat.zero_add]; exact h4 i j hi hj⟩⟩
theorem wides2_new (W : World) (q s : Nat) (e : TypeId) (i j : Nat) (hi : i < 2) (hj : j < 8) :
    (W.alloc (.cells #[.int .u64 (dgl q 0 : Nat), .int .u64 (dgl q 1 : Nat), .int .u64 (dgl q 2 : Nat), .int .u64 (dgl q 3 : Nat), .int .u64 (dgl q 4 : Nat), .int .u64 (dgl q 5 : Nat), .int .u64 (dgl q 6 : Nat), .int .u64 (dgl q 7 : Nat), .int .u64 (dgl s 0 : Nat), .int .u64 (dgl s 1 : Nat), .int .u64 (dgl s 2 : Nat), .int .u64 (dgl s 3 : Nat), .int .u64 (dgl s 4 : Nat), .int .u64 (dgl s 5 : Nat), .int .u64 (dgl s 6 : Nat), .int .u64 (dgl s 7 : Nat)] e)).cell? ⟨W.heap.size, i * 8 + j, none⟩ = some (.int .u64 (dgl (dg [q, s] i) j : Nat)) := by
  rcases (show i = 0 ∨ i = 1 by omega) with rfl | rfl <;>
  rcases (show j = 0 ∨ j = 1 ∨ j = 2 ∨ j = 3 ∨ j = 4 ∨ j = 5 ∨ j = 6 ∨ j = 7 by omega) with rfl | rfl | rfl | rfl | rfl | rfl | rfl | rfl <;>
  simp [go_sem, dg]

end Go.Proofs.Yteocibahclpegaa

/- What is lost by a shift that is greater than all. -/
set_option linter.unusedVariables false
set_option linter.unusedSimpArgs false
set_option maxRecDepth 8000
namespace Go.Proofs.Yteocibahclpegaa
open Go.RowKit Plain

theorem lost_past (a k r q : Nat) (hr : r = min k q) (hQ : 2 ^ q = QQ) (ha : a < QQ) : decide (a / 2 ^ k * 2 ^ k = a) = decide (a / 2 ^ r * 2 ^ r = a) := by
  rw [decide_eq_decide]
  rcases Nat.lt_or_ge q k with h | h
  · have hrq : r = q := by omega
    subst hrq
    have h2 : a < 2 ^ r := by rw [hQ]; exact ha
    have h3 : 2 ^ r ≤ 2 ^ k := Nat.pow_le_pow_right (by decide) (by omega)
    rw [Nat.div_eq_of_lt h2, Nat.div_eq_of_lt (Nat.lt_of_lt_of_le h2 h3), Nat.zero_mul, Nat.zero_mul]
  · have : r = k := by omega
    rw [this]

end Go.Proofs.Yteocibahclpegaa

