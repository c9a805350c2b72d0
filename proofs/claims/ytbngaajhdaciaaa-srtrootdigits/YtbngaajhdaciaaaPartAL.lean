/- Contracts and laws: GrowB, GrowS, WideQ, WideR, WideS, WideT, GrowG, GrowK, GrowJ, WideU, ProdA, ProdB. -/
import Derived.Test.YtbngaajhdaciaaaPartAA
import Derived.Test.YtbngaajhdaciaaaPartAK
import Derived.Deep.DeepCutAuto
/- The steps of such a region, one law for each kind of operation. -/
set_option linter.unusedVariables false
set_option linter.unusedSimpArgs false
set_option maxRecDepth 8000
namespace Go.Proofs.Ytbngaajhdaciaaa
open Go.RowKit Plain

section
variable {ops : Array Oper} {a : Act} {T : List (Nat × SlotIs)} {C : World → Prop} {o : Oper}

def gRun (a : Act) (T : List (Nat × SlotIs)) (C : World → Prop) (o : Oper) (looks : List Tmp) : Prop :=
  ∀ (ρ : Operand → Value) (w : World), C w → (∀ c, ρ (.const c) = c) → (∀ f, ρ (.func f) = .func (.func f) #[] #[]) → (∀ t ∈ looks, tbl a t T (ρ (.tmp t)) w) →
    gUpon Try.prog (gPost a T o w) ((execOp ρ o).run Try.prog w)

theorem gStep_run (hg : o.guard = none) (h : gRun a T C o (o.looksAt ops)) : gStep Try.prog ops a T C o := by
  intro A w hC hL
  have hw : Region.wanted o (yielded ops A.tmps) = true := by unfold Region.wanted; rw [hg]
  rw [if_pos hw]
  exact h A.eval w hC (fun _ => rfl) (fun _ => rfl) hL

theorem yielded_eval (A : Act) (g t : Nat) (b : Bool) (ht : (ops[g]?).bind (·.dst) = some t) (h : A.eval (.tmp t) = .bool b) : yielded ops A.tmps g = some b := by
  unfold yielded
  rw [ht]
  simp only [Act.eval] at h
  simp only [Option.bind_some]
  by_cases hlt : t < A.tmps.size
  · simp [hlt] at h ⊢
    rw [h]
  · simp [hlt, undef] at h

theorem gStep_on (g t : Nat) (b : Bool) (hg : o.guard = some (g, b)) (ht : (ops[g]?).bind (·.dst) = some t) (hm : t ∈ o.looksAt ops) (hT : ∀ v w, tbl a t T v w → v = .bool b) (h : gRun a T C o (o.looksAt ops)) : gStep Try.prog ops a T C o := by
  intro A w hC hL
  have hw : Region.wanted o (yielded ops A.tmps) = true := by
    unfold Region.wanted; rw [hg]
    simp only [yielded_eval A g t b ht (hT _ _ (hL t hm)), beq_self_eq_true]
  rw [if_pos hw]
  exact h A.eval w hC (fun _ => rfl) (fun _ => rfl) hL

theorem gStep_off (g t : Nat) (b : Bool) (hg : o.guard = some (g, b)) (ht : (ops[g]?).bind (·.dst) = some t) (hm : t ∈ o.looksAt ops) (hT : ∀ v w, tbl a t T v w → v = .bool (!b))
    (h : ∀ w, match o.dst with | some d => tbl a d T undef w | none => True) : gStep Try.prog ops a T C o := by
  intro A w hC hL
  have hw : Region.wanted o (yielded ops A.tmps) = false := by
    unfold Region.wanted; rw [hg]
    simp only [yielded_eval A g t _ ht (hT _ _ (hL t hm))]
    cases b <;> rfl
  rw [if_neg (by rw [hw]; decide)]
  exact ⟨Below.refl _ _, h w⟩

/-- Moves. -/
theorem gRun_move {looks : List Tmp} (x d : Tmp) (ho : o.op = .move (.tmp x) ∨ o.op = .assign (.tmp x)) (hd : o.dst = some d) (hx : x ∈ looks) (h : ∀ v w, tbl a x T v w → tbl a d T v w) : gRun a T C o looks := by
  intro ρ w hC hc hf hL
  have hr : (execOp ρ o).run Try.prog w = .ok (.value (ρ (.tmp x))) w := by
    obtain ⟨dst, op, type, pos, after, guard⟩ := o
    rcases ho with ho | ho <;> (simp only at ho; subst ho; rfl)
  rw [hr]
  refine ⟨Below.refl _ _, ?_⟩
  rw [hd]
  exact h _ _ (hL x hx)
theorem gRun_const {looks : List Tmp} (x : Value) (d : Tmp) (ho : o.op = .move (.const x) ∨ o.op = .assign (.const x)) (hd : o.dst = some d) (h : ∀ w, tbl a d T x w) : gRun a T C o looks := by
  intro ρ w hC hc hf hL
  have hr : (execOp ρ o).run Try.prog w = .ok (.value x) w := by
    obtain ⟨dst, op, type, pos, after, guard⟩ := o
    rw [← hc x]
    rcases ho with ho | ho <;> (simp only at ho; subst ho; rfl)
  rw [hr]
  refine ⟨Below.refl _ _, ?_⟩
  rw [hd]
  exact h _
/-- A pick between what was reckoned and a constant. -/
theorem gRun_pickT {looks : List Tmp} (c x d : Tmp) (y : Operand) (ho : o.op = .pick (.tmp c) (.tmp x) y) (hd : o.dst = some d) (hcm : c ∈ looks) (hxm : x ∈ looks)
    (hT : ∀ v w, tbl a c T v w → v = .bool true) (h : ∀ v w, tbl a x T v w → tbl a d T v w) : gRun a T C o looks := by
  intro ρ w hC hc hf hL
  have hr : (execOp ρ o).run Try.prog w = .ok (.value (ρ (.tmp x))) w := by
    obtain ⟨dst, op, type, pos, after, guard⟩ := o
    simp only at ho; subst ho
    have := hT _ _ (hL c hcm)
    simp [execOp, this, go_sem]
  rw [hr]
  refine ⟨Below.refl _ _, ?_⟩
  rw [hd]
  exact h _ _ (hL x hxm)
theorem gRun_pickF {looks : List Tmp} (c d : Tmp) (x : Operand) (y : Value) (ho : o.op = .pick (.tmp c) x (.const y)) (hd : o.dst = some d) (hcm : c ∈ looks)
    (hT : ∀ v w, tbl a c T v w → v = .bool false) (h : ∀ w, tbl a d T y w) : gRun a T C o looks := by
  intro ρ w hC hc hf hL
  have hr : (execOp ρ o).run Try.prog w = .ok (.value y) w := by
    obtain ⟨dst, op, type, pos, after, guard⟩ := o
    simp only at ho; subst ho
    have := hT _ _ (hL c hcm)
    simp [execOp, this, go_sem, hc]
  rw [hr]
  refine ⟨Below.refl _ _, ?_⟩
  rw [hd]
  exact h _
end

/-- A new block of the call's own that holds eight limbs. -/
def SlotIs.box (B : Nat) (f : Nat → Nat) : SlotIs :=
  ⟨fun v w => ∃ b, v = .pointer (some ⟨b, 0, none⟩) ∧ B ≤ b ∧ LiesF w b f ∧ ∀ i, w.frozen? ⟨b, i, none⟩ = false,
   fun v w w' hb ⟨b, h1, h2, h3, h4⟩ => ⟨b, h1, h2, h3.below hb, fun i => (hb.frozen (p := ⟨b, i, none⟩) h3.2).trans (h4 i)⟩⟩
def SlotIs.big (n K : Nat) : SlotIs := ⟨fun v w => BigV w v n K, fun v w w' hb h => h.below hb⟩

end Go.Proofs.Ytbngaajhdaciaaa

/- Likewise, where some of the operations store into blocks that nobody else reads: the class of worlds tells which of them have been done. -/
set_option linter.unusedVariables false
set_option linter.unusedSimpArgs false
set_option maxRecDepth 8000
namespace Go.Proofs.Ytbngaajhdaciaaa
open Go.RowKit Plain

/-- A table of plain values. -/
def vals (L : List (Nat × Value)) : List (Nat × SlotIs) := L.map fun p => (p.1, .val p.2)
theorem vals_still (a : Act) (t : Tmp) (v : Value) (w w' : World) : ∀ L : List (Nat × Value), tbl a t (vals L) v w → tbl a t (vals L) v w'
  | [] => fun h => h
  | p :: L => by
    unfold vals
    rw [List.map_cons]
    unfold tbl
    cases Nat.beq (p.1, SlotIs.val p.2).1 t
    · exact vals_still a t v w w' L
    · exact fun h => h

section
variable {P : Program} {ops : Array Oper} {n : Nat} {a : Act} {T : List (Nat × SlotIs)} {C : List Bool → World → Prop} {Q : Exit → Act → World → Prop} {ss : List Nat}

def gStore (P : Program) (ops : Array Oper) (a : Act) (T : List (Nat × SlotIs)) (C : List Bool → World → Prop) (ss : List Nat) (k : Nat) (o : Oper) : Prop :=
  o.dst = none ∧ o.guard = none ∧ ∀ (φ : Nat → Bool) (ρ : Operand → Value) (w : World), φ k = false → C (ss.map φ) w → (∀ c, ρ (.const c) = c) → (∀ t ∈ o.looksAt ops, tbl a t T (ρ (.tmp t)) w) →
    gUpon P (fun _ w' => C (ss.map fun i => φ i || Nat.beq i k) w') ((execOp ρ o).run P w)

def sSteps (P : Program) (ops : Array Oper) (a : Act) (T : List (Nat × SlotIs)) (C : List Bool → World → Prop) (ss : List Nat) : Nat → List Oper → Prop
  | _, [] => True
  | k, o :: rest => (if ss.contains k then gStore P ops a T C ss k o else ∀ bs, gStep P ops a T (C bs) o) ∧ sSteps P ops a T C ss (k + 1) rest
theorem sSt {k n : Nat} {o : Oper} {l : List Oper} (hk : ss.contains k = false) (h : ∀ bs, gStep P ops a T (C bs) o) (h2 : sSteps P ops a T C ss (k + 1) (l.take n)) : sSteps P ops a T C ss k ((o :: l).take (n + 1)) := by
  rw [List.take_succ_cons]; unfold sSteps; rw [hk]; exact ⟨h, h2⟩
theorem sStS {k n : Nat} {o : Oper} {l : List Oper} (hk : ss.contains k = true) (h : gStore P ops a T C ss k o) (h2 : sSteps P ops a T C ss (k + 1) (l.take n)) : sSteps P ops a T C ss k ((o :: l).take (n + 1)) := by
  rw [List.take_succ_cons]; unfold sSteps; rw [hk]; exact ⟨h, h2⟩
theorem sSt0 {k : Nat} {l : List Oper} : sSteps P ops a T C ss k (l.take 0) := trivial
theorem sSteps_get : ∀ (l : List Oper) (k i : Nat) (o : Oper), l[i]? = some o → sSteps P ops a T C ss k l → (if ss.contains (k + i) then gStore P ops a T C ss (k + i) o else ∀ bs, gStep P ops a T (C bs) o)
  | [], k, i, o, h, _ => by simp at h
  | x :: l, k, 0, o, h, hs => by simp at h; subst h; exact hs.1
  | x :: l, k, i + 1, o, h, hs => by
    have := sSteps_get l (k + 1) i o (by simpa using h) hs.2
    rw [show k + 1 + i = k + (i + 1) by omega] at this
    exact this

structure SInv (ops : Array Oper) (n : Nat) (a : Act) (T : List (Nat × SlotIs)) (C : List Bool → World → Prop) (ss : List Nat) (listed : Array Bool) (A : Act) (w : World) : Prop where
  c : C (ss.map fun i => listed.getD i false) w
  sz : A.tmps.size = a.tmps.size
  df : A.defers = a.defers
  kept : ∀ t, t ∉ T.map Prod.fst → A.tmps[t]? = a.tmps[t]?
  known : ∀ t, (∀ i oi, i < n → ops[i]? = some oi → listed.getD i true = false → oi.dst ≠ some t) → tbl a t T (A.eval (.tmp t)) w

theorem growS_any (hB : gOkB ops n (T.map Prod.fst) = true) (hss : ∀ i ∈ ss, i < n) (hCs : ∀ bs w w', C bs w → Below w.heap.size w w' → C bs w') (hTs : ∀ t v w w', tbl a t T v w → tbl a t T v w') (hsz : ∀ d ∈ T.map Prod.fst, d < a.tmps.size)
    (hst : sSteps P ops a T C ss 0 (ops.toList.take n)) (hf : ∀ w', C (ss.map fun _ => true) w' → gFin a T (fun a' => wpList P ops Q (ops.toList.drop n) a' w') w' (ops.toList.take n) a) :
    ∀ (f : Nat) (L : List Nat) (listed : Array Bool) (A : Act) (w : World), L.length = f → L.Nodup → (∀ i, i ∈ L ↔ (i < n ∧ listed.getD i true = false)) →
      HeadInv .any ops n listed → SInv ops n a T C ss listed A w → wpAny P .any ops Q (f + (ops.size - n)) listed A w := by
  simp only [gOkB, Bool.and_eq_true, decide_eq_true_eq] at hB
  obtain ⟨⟨⟨⟨⟨hn, hlook⟩, hd⟩, hnd⟩, htail⟩, hseq⟩ := hB
  have hlk : ∀ j o, j < n → ops[j]? = some o → (∀ t ∈ o.looksAt ops, ∀ i oi, i < n → ops[i]? = some oi → oi.dst = some t → ∃ e ∈ o.after, Region.binds .any e = true ∧ e.on = i) ∧ (∀ e ∈ o.after, Region.binds .any e = true → e.on < j) := by
    intro j o hj ho
    have h1 := List.all_eq_true.1 hlook j (List.mem_range.2 hj)
    simp only [ho, Bool.and_eq_true] at h1
    constructor
    · intro t ht i oi hi hoi hdi
      have h2 := List.all_eq_true.1 (List.all_eq_true.1 h1.1 t ht) i (List.mem_range.2 hi)
      simp only [hoi, hdi, Bool.or_eq_true] at h2
      rcases h2 with h2 | h2
      · have : Nat.beq t t = true := Nat.beq_refl t
        rw [this] at h2; cases h2
      · obtain ⟨oj, hoj, e, he, hb, hon⟩ := Region.waitsFor_spec h2
        have : oj = o := Option.some.inj (hoj.symm.trans ho)
        subst this
        exact ⟨e, he, hb, hon⟩
    · intro e he hb
      have h2 := (Array.all_eq_true_iff_forall_mem.1 h1.2) e he
      simp only [hb, Bool.not_true, Bool.false_or, decide_eq_true_eq] at h2
      exact h2
  have hdst : ∀ i o, i < n → ops[i]? = some o → ∀ d, o.dst = some d → d ∈ T.map Prod.fst := fun i o hi ho d hdo => by
    rw [← hd]
    refine List.mem_filterMap.2 ⟨o, ?_, hdo⟩
    rw [List.mem_iff_getElem?]
    exact ⟨i, by rw [List.getElem?_take_of_lt hi, Array.getElem?_toList]; exact ho⟩
  intro f
  induction f with
  | zero =>
    intro L listed A w hl hnd' hL hinv inv
    have hall : ∀ i, i < n → listed.getD i true = true := fun i hi => by
      cases hc : listed.getD i true
      · have := (hL i).2 ⟨hi, hc⟩
        rw [List.length_eq_zero_iff.1 hl] at this; cases this
      · rfl
    have hlist : listed = Array.replicate n true ++ Array.replicate (ops.size - n) false := by
      apply Array.ext_getElem?
      intro i
      by_cases h1 : i < n
      · have h2 := hall i h1
        have h3 : i < listed.size := by rw [hinv.size]; omega
        simp [h3] at h2
        rw [Array.getElem?_append_left (by simpa using h1)]
        simp [h1, h3, h2]
      · by_cases h4 : i < ops.size
        · have h2 := hinv.tail i (by omega) h4
          have h3 : i < listed.size := by rw [hinv.size]; omega
          simp [h3] at h2
          rw [Array.getElem?_append_right (by simp; omega), Array.getElem?_eq_getElem h3, Array.getElem?_replicate, if_pos (by simp; omega), h2]
        · rw [Array.getElem?_eq_none (by rw [hinv.size]; omega), Array.getElem?_eq_none (by simp; omega)]
    rw [Nat.zero_add]
    have hQ := gFin_use (a := a) (T := T) (w := w) _ A a inv.sz inv.df (by rw [hd]; exact hnd) (fun t ht => inv.kept t (by rw [← hd]; exact ht)) (fun d hdm => inv.known d (fun i oi hi hoi hli => by rw [hall i hi] at hli; cases hli)) (hf w (by rw [← List.map_congr_left (f := fun i => listed.getD i false) (g := fun _ => true) (fun i hi => by have h1 := hall i (hss i hi); have h3 : i < listed.size := by {rw [hinv.size]; have := hss i hi; omega}; simp [h3] at h1 ⊢; exact h1)]; exact inv.c))
    have := wpAny_of_seq (md := .any) (Q' := Q) (ops.toList.drop n) n listed A w (fun j => by simp [List.getElem?_drop]) (by rw [hlist]; simpa using hseq) hQ
    simpa using this
  | succ f ih =>
    intro L listed A w hl hnd' hL hinv inv
    have hne : ∃ i, i < n ∧ listed.getD i true = false := by
      cases L with
      | nil => cases hl
      | cons i L => exact ⟨i, (hL i).1 (by simp)⟩
    have hready : Region.ready .any ops listed ≠ [] := by
      intro hr
      obtain ⟨i, hi, hli⟩ := hne
      have key : ∀ m, ∀ j, j < m → j < n → listed.getD j true = true := by
        intro m
        induction m with
        | zero => intro j hj; omega
        | succ m ihm =>
          intro j hj hjn
          rcases Nat.lt_or_ge j m with h | h
          · exact ihm j h hjn
          · cases hc : listed.getD j true
            · have hjs : j < ops.size := by omega
              have : j ∈ Region.ready .any ops listed := mem_ready.2 ⟨hc, ops[j], by simp [hjs], fun e he hb => by
                have h1 := (hlk j ops[j] hjn (by simp [hjs])).2 e he hb
                have h2 := ihm e.on (by omega) (by omega)
                have h3 : e.on < listed.size := by rw [hinv.size]; omega
                simp [h3] at h2 ⊢; exact h2⟩
              rw [hr] at this; cases this
            · rfl
      rw [key (i + 1) i (by omega) hi] at hli; cases hli
    rw [show f + 1 + (ops.size - n) = (f + (ops.size - n)) + 1 by omega]
    refine ⟨fun h => absurd h hready, fun i hi => ?_⟩
    have hin : i < n := by
      rcases Nat.lt_or_ge i n with h | h
      · exact h
      · simp only [Bool.or_eq_true, Bool.and_eq_true, decide_eq_true_eq] at htail
        rcases htail with ht | ⟨⟨h1, h2⟩, h3⟩
        · obtain ⟨_, o, ho, _⟩ := mem_ready.1 hi
          have := (Array.getElem?_eq_some_iff.1 ho).1
          omega
        · obtain ⟨k, hk, hlk'⟩ := hne
          exact absurd hi (tail_waits h2 h3 h1 hinv _ k rfl hk hlk' i h)
    obtain ⟨hun, o, ho, hafter⟩ := mem_ready.1 hi
    have hlooks : ∀ t ∈ o.looksAt ops, tbl a t T (A.eval (.tmp t)) w := fun t ht => inv.known t (fun j oj hj hoj hlj hdj => by
      obtain ⟨e, he, hb, hon⟩ := (hlk i o hin ho).1 t ht j oj hj hoj hdj
      have h1 := hafter e he hb
      rw [hon, getD_both hlj] at h1; cases h1)
    have hnext : ∀ v w', (match o.dst with | some d => tbl a d T v w' | none => True) → C (ss.map fun j => (listed.setIfInBounds i true).getD j false) w' →
        wpAny P .any ops Q (f + (ops.size - n)) (listed.setIfInBounds i true) (A.put o.dst v) w' := fun v w' hp hc' => by
      refine ih (L.erase i) _ _ _ ?_ (hnd'.erase i) (fun j => ?_) (hinv.set hi hin) ⟨hc', by rw [put_sz]; exact inv.sz, by rw [put_df]; exact inv.df, fun t ht => ?_, fun t ht => ?_⟩
      · rw [List.length_erase_of_mem ((hL i).2 ⟨hin, hun⟩), hl]; rfl
      · rw [hnd'.mem_erase_iff, hL j]
        constructor
        · rintro ⟨h1, h2, h3⟩
          exact ⟨h2, by rw [getD_set_ne true (fun e => h1 e.symm)]; exact h3⟩
        · rintro ⟨h2, h3⟩
          by_cases hij : i = j
          · subst hij
            have : i < listed.size := by rw [hinv.size]; omega
            simp [this] at h3
          · rw [getD_set_ne true hij] at h3
            exact ⟨fun e => hij e.symm, h2, h3⟩
      · rw [← inv.kept t ht]
        cases hdo : o.dst with
        | none => rfl
        | some d =>
          have : d ≠ t := fun e => ht (e ▸ hdst i o hin ho d hdo)
          simp [Act.put, Array.getElem?_setIfInBounds_ne this]
      · by_cases hdt : o.dst = some t
        · rw [hdt] at hp
          have e : (A.put o.dst v).eval (.tmp t) = v := by
            rw [hdt]
            have : t < A.tmps.size := by rw [inv.sz]; exact hsz t (hdst i o hin ho t hdt)
            simp [Act.put, Act.eval, this]
          rw [e]; exact hp
        · have e : (A.put o.dst v).eval (.tmp t) = A.eval (.tmp t) := Act.eval_put (fun d h1 h2 => hdt (by rw [h1]; cases h2; rfl))
          rw [e]
          refine hTs t _ w w' (inv.known t fun j oj hj hoj hl => ?_)
          by_cases hij : i = j
          · subst hij
            have : oj = o := Option.some.inj (hoj.symm.trans ho)
            subst this; exact hdt
          · exact ht j oj hj hoj (by rw [getD_set_ne true hij]; exact hl)
    have hget := sSteps_get _ 0 i o (by rw [List.getElem?_take_of_lt hin, Array.getElem?_toList]; exact ho) hst
    rw [Nat.zero_add] at hget
    have hils : i < listed.size := by rw [hinv.size]; omega
    unfold wpOp
    simp only [ho]
    cases hsi : ss.contains i with
    | true =>
      rw [hsi] at hget
      obtain ⟨hd0, hg0, hgo⟩ := hget
      have hw : Region.wanted o (yielded ops A.tmps) = true := by unfold Region.wanted; rw [hg0]
      rw [if_pos hw]
      refine .inl (wp_of_gOp (fun v w' hk => hnext v w' (by rw [hd0]; trivial) ?_) (hgo (fun j => listed.getD j false) A.eval w (getD_both hun) inv.c (fun _ => rfl) hlooks))
      rw [← List.map_congr_left (f := fun j => listed.getD j false || Nat.beq j i) (g := fun j => (listed.setIfInBounds i true).getD j false) (fun j _ => ?_)]
      · exact hk
      · by_cases hij : i = j
        · subst hij
          have : Nat.beq i i = true := Nat.beq_refl i
          simp [hils, this]
        · rw [getD_set_ne false hij]
          have : Nat.beq j i = false := by
            cases hb : Nat.beq j i
            · rfl
            · exact absurd (Nat.eq_of_beq_eq_true hb).symm hij
          simp [this]
    | false =>
      rw [hsi] at hget
      have hstep := hget _ A w inv.c hlooks
      have hsame : (ss.map fun j => (listed.setIfInBounds i true).getD j false) = ss.map fun j => listed.getD j false := List.map_congr_left (fun j hj => by
        refine getD_set_ne false (fun e => ?_)
        subst e
        rw [List.contains_iff_mem.2 hj] at hsi
        cases hsi)
      have go : ∀ v w', gPost a T o w v w' → wpAny P .any ops Q (f + (ops.size - n)) (listed.setIfInBounds i true) (A.put o.dst v) w' := fun v w' hp =>
        hnext v w' hp.2 (by rw [hsame]; exact hCs _ _ _ inv.c hp.1)
      split
      · rename_i hw
        simp only [hw, if_true] at hstep
        exact .inl (wp_of_gOp go hstep)
      · rename_i hw
        simp only [hw] at hstep
        exact go _ _ hstep

theorem wp_region_store {id : Nat} {w : World} {l : List Oper} (n : Nat) (ss : List Nat) (LV : List (Nat × Value)) (C : List Bool → World → Prop) (hm : P.follows .mixedOrders = true) (hB : gOkB l.toArray n ((vals LV).map Prod.fst) = true)
    (hsz : ((vals LV).map Prod.fst).all (fun d => Nat.blt d a.tmps.size) = true) (hss : ss.all (fun i => Nat.blt i n) = true) (hC : C (ss.map fun _ => false) w.drew) (hCs : ∀ bs w w', C bs w → Below w.heap.size w w' → C bs w')
    (hst : sSteps P l.toArray a (vals LV) C ss 0 (l.take n)) (hf : ∀ w', C (ss.map fun _ => true) w' → gFin a (vals LV) (fun a' => wpList P l.toArray Q (l.drop n) a' w') w' (l.take n) a) :
    (Code.region id l.toArray true).wp P Q a w := by
  refine wp_region_any hm ?_
  have hn : n ≤ l.toArray.size := by
    simp only [gOkB, Bool.and_eq_true, decide_eq_true_eq] at hB
    exact hB.1.1.1.1.1
  have := growS_any (P := P) (ops := l.toArray) (n := n) (a := a) (T := vals LV) (C := C) (ss := ss) (Q := Q) hB (fun i hi => by have := List.all_eq_true.1 hss i hi; simpa [Nat.blt_eq] using this) hCs (fun t v w w' h => vals_still a t v w w' LV h) (fun d hd => by have := List.all_eq_true.1 hsz d hd; simpa [Nat.blt_eq] using this) (by simpa using hst) (by simpa using hf) n (List.range n) (Array.replicate l.toArray.size false) a w.drew (by simp) List.nodup_range
    (fun i => by
      rw [List.mem_range]
      constructor
      · intro h
        have : i < l.length := by have : n ≤ l.length := by simpa using hn
                                  omega
        exact ⟨h, by simp [this]⟩
      · exact fun h => h.1)
    ⟨by simp, fun j oj _ hl => (by rw [getD_replicate_false] at hl; cases hl), fun t _ ht => getD_in (by simpa using ht) (getD_replicate_false _ _)⟩
    ⟨by rw [List.map_congr_left (g := fun _ => false) (fun i _ => getD_replicate_false _ _)]; exact hC, rfl, rfl, fun _ _ => rfl, fun t ht => tbl_out a t _ _ rfl (vals LV) (fun hmem => by
      have hd : ((l.toArray.toList.take n).filterMap (·.dst)) = (vals LV).map Prod.fst := by
        simp only [gOkB, Bool.and_eq_true, decide_eq_true_eq] at hB
        exact hB.1.1.1.2
      rw [← hd] at hmem
      obtain ⟨o, ho, hdo⟩ := List.mem_filterMap.1 hmem
      obtain ⟨i, hi⟩ := List.mem_iff_getElem?.1 ho
      have hin : i < n := by
        rcases Nat.lt_or_ge i n with h | h
        · exact h
        · rw [List.getElem?_eq_none (by simp; omega)] at hi; cases hi
      rw [List.getElem?_take_of_lt hin] at hi
      have hil : i < l.length := by
        rcases Nat.lt_or_ge i l.length with h | h
        · exact h
        · rw [List.getElem?_eq_none h] at hi; cases hi
      exact ht i o hin (by simpa using hi) (by simp [hil]) hdo)⟩
  rwa [show n + (l.toArray.size - n) = l.toArray.size by omega] at this
end
end Go.Proofs.Ytbngaajhdaciaaa

/- Contracts: wide.Shr. -/
set_option linter.unusedVariables false
set_option linter.unusedSimpArgs false
set_option maxRecDepth 8000
namespace Go.Proofs.Ytbngaajhdaciaaa
open Go.RowKit Plain

structure ShrSt (B : Nat) (w : World) (fa fr : Nat → Nat) (W : World) : Prop where
  la : LiesF W B fa
  lr : LiesF W (B + 1) fr
  fr : ∀ i, W.frozen? ⟨B + 1, i, none⟩ = false
  bel : Below B w W
theorem ShrSt.below {B : Nat} {w : World} {fa fr : Nat → Nat} {W W' : World} (h : ShrSt B w fa fr W) (hb : Below W.heap.size W W') : ShrSt B w fa fr W' :=
  ⟨h.la.below hb, h.lr.below hb, fun i => (hb.frozen (p := ⟨B + 1, i, none⟩) h.lr.2).trans (h.fr i), h.bel.trans (hb.mono (Nat.le_of_lt h.la.2))⟩

theorem lies_other {W : World} {b B : Nat} {f : Nat → Nat} {x0 x1 x2 x3 x4 x5 x6 x7 : Value} (h : LiesF W b f) (hne : B < b) : LiesF ((((((((W.setCell ⟨B, 0, none⟩ x0).setCell ⟨B, 1, none⟩ x1).setCell ⟨B, 2, none⟩ x2).setCell ⟨B, 3, none⟩ x3).setCell ⟨B, 4, none⟩ x4).setCell ⟨B, 5, none⟩ x5).setCell ⟨B, 6, none⟩ x6).setCell ⟨B, 7, none⟩ x7) b f := by
  refine ⟨fun i hi => ?_, by simpa using h.2⟩
  have := h.1 i hi
  have hb : b ≠ B := by omega
  simp [go_sem, this, hb]
theorem ShrSt.set8 {B : Nat} {w : World} {fa fr fq : Nat → Nat} {W : World} (h : ShrSt B w fa fr W) : ShrSt B w fa fq ((((((((W.setCell ⟨B + 1, 0, none⟩ (.int .u64 (fq 0 : Nat))).setCell ⟨B + 1, 1, none⟩ (.int .u64 (fq 1 : Nat))).setCell ⟨B + 1, 2, none⟩ (.int .u64 (fq 2 : Nat))).setCell ⟨B + 1, 3, none⟩ (.int .u64 (fq 3 : Nat))).setCell ⟨B + 1, 4, none⟩ (.int .u64 (fq 4 : Nat))).setCell ⟨B + 1, 5, none⟩ (.int .u64 (fq 5 : Nat))).setCell ⟨B + 1, 6, none⟩ (.int .u64 (fq 6 : Nat))).setCell ⟨B + 1, 7, none⟩ (.int .u64 (fq 7 : Nat))) := by
  have hs8 := below_set8 (Below.refl (B + 1) W) (B + 1) (Nat.le_refl _) (.int .u64 (fq 0 : Nat)) (.int .u64 (fq 1 : Nat)) (.int .u64 (fq 2 : Nat)) (.int .u64 (fq 3 : Nat)) (.int .u64 (fq 4 : Nat)) (.int .u64 (fq 5 : Nat)) (.int .u64 (fq 6 : Nat)) (.int .u64 (fq 7 : Nat))
  exact ⟨lies_box h.la hs8 (by omega), set8_same W (B + 1) fq fr h.lr, fun i => by simpa [go_sem] using h.fr i, h.bel.trans (hs8.mono (by omega))⟩

set_option maxHeartbeats 4000000 in
theorem wideShr_walk (fa fq fu : Nat → Nat) (n r : Int) (t : Bool) (w : World)
    (HR : Hid (∀ w, Calls Try.prog 60 #[.int .i64 n] w fun e w' => e = .returned (.int .i64 r) ∧ w' = w))
    (hneg : IntKind.i64.wrap (-r) = -r)
    (HM : Hid (∀ w, Calls Try.prog 59 #[.agg #[.int .u64 (fa 0 : Nat), .int .u64 (fa 1 : Nat), .int .u64 (fa 2 : Nat), .int .u64 (fa 3 : Nat), .int .u64 (fa 4 : Nat), .int .u64 (fa 5 : Nat), .int .u64 (fa 6 : Nat), .int .u64 (fa 7 : Nat)], .int .i64 (-r), .int .u64 0] w fun e w' => e = .returned (.agg #[.int .u64 (fq 0 : Nat), .int .u64 (fq 1 : Nat), .int .u64 (fq 2 : Nat), .int .u64 (fq 3 : Nat), .int .u64 (fq 4 : Nat), .int .u64 (fq 5 : Nat), .int .u64 (fq 6 : Nat), .int .u64 (fq 7 : Nat)]) ∧ Below w.heap.size w w'))
    (HS : Hid (∀ w, Calls Try.prog 44 #[.agg #[.int .u64 (fq 0 : Nat), .int .u64 (fq 1 : Nat), .int .u64 (fq 2 : Nat), .int .u64 (fq 3 : Nat), .int .u64 (fq 4 : Nat), .int .u64 (fq 5 : Nat), .int .u64 (fq 6 : Nat), .int .u64 (fq 7 : Nat)], .int .i64 n] w fun e w' => e = .returned (.agg #[.int .u64 (fu 0 : Nat), .int .u64 (fu 1 : Nat), .int .u64 (fu 2 : Nat), .int .u64 (fu 3 : Nat), .int .u64 (fu 4 : Nat), .int .u64 (fu 5 : Nat), .int .u64 (fu 6 : Nat), .int .u64 (fu 7 : Nat)]) ∧ Below w.heap.size w w'))
    (heq : ∀ w, (Op.equalIn 10000 24 (.agg #[.int .u64 (fu 0 : Nat), .int .u64 (fu 1 : Nat), .int .u64 (fu 2 : Nat), .int .u64 (fu 3 : Nat), .int .u64 (fu 4 : Nat), .int .u64 (fu 5 : Nat), .int .u64 (fu 6 : Nat), .int .u64 (fu 7 : Nat)]) (.agg #[.int .u64 (fa 0 : Nat), .int .u64 (fa 1 : Nat), .int .u64 (fa 2 : Nat), .int .u64 (fa 3 : Nat), .int .u64 (fa 4 : Nat), .int .u64 (fa 5 : Nat), .int .u64 (fa 6 : Nat), .int .u64 (fa 7 : Nat)])).run Try.prog w = .ok t w) :
    Calls Try.prog 31 #[.agg #[.int .u64 (fa 0 : Nat), .int .u64 (fa 1 : Nat), .int .u64 (fa 2 : Nat), .int .u64 (fa 3 : Nat), .int .u64 (fa 4 : Nat), .int .u64 (fa 5 : Nat), .int .u64 (fa 6 : Nat), .int .u64 (fa 7 : Nat)], .int .i64 n] w fun e w' => e = .returned (.tuple #[.agg #[.int .u64 (fq 0 : Nat), .int .u64 (fq 1 : Nat), .int .u64 (fq 2 : Nat), .int .u64 (fq 3 : Nat), .int .u64 (fq 4 : Nat), .int .u64 (fq 5 : Nat), .int .u64 (fq 6 : Nat), .int .u64 (fq 7 : Nat)], .bool (!t)]) ∧ Below w.heap.size w w' := by
  have HST : Hid (ShrSt w.heap.size w fa (fun _ => 0) ((w.alloc (.cells #[.int .u64 (fa 0 : Nat), .int .u64 (fa 1 : Nat), .int .u64 (fa 2 : Nat), .int .u64 (fa 3 : Nat), .int .u64 (fa 4 : Nat), .int .u64 (fa 5 : Nat), .int .u64 (fa 6 : Nat), .int .u64 (fa 7 : Nat)] 24)).alloc (.cells #[.int .u64 0, .int .u64 0, .int .u64 0, .int .u64 0, .int .u64 0, .int .u64 0, .int .u64 0, .int .u64 0] 24))) := by
    have hlz := liesF_new (w.alloc (.cells #[.int .u64 (fa 0 : Nat), .int .u64 (fa 1 : Nat), .int .u64 (fa 2 : Nat), .int .u64 (fa 3 : Nat), .int .u64 (fa 4 : Nat), .int .u64 (fa 5 : Nat), .int .u64 (fa 6 : Nat), .int .u64 (fa 7 : Nat)] 24)) (fun _ => 0) 24
    rw [World.size_alloc] at hlz
    exact ⟨(liesF_new w fa 24).alloc _, hlz, fun i => by simp [go_sem], below_trans (below_allocs w _) (below_allocs _ _)⟩
  go_enter Try.func31, Try.ntmps31
  go_upto_region 1 with fail
  refine wp_gen (fun W => ShrSt w.heap.size w fa (fun _ => 0) W ∧ w.heap.size + 2 ≤ W.heap.size) ⟨HST.out, by simp⟩ ?_
  rintro W1 h1
  refine wp_region_grow 6 [(7, .val (.agg #[.int .u64 (fa 0 : Nat), .int .u64 (fa 1 : Nat), .int .u64 (fa 2 : Nat), .int .u64 (fa 3 : Nat), .int .u64 (fa 4 : Nat), .int .u64 (fa 5 : Nat), .int .u64 (fa 6 : Nat), .int .u64 (fa 7 : Nat)])), (8, .val (.int .i64 n)), (9, .val (.int .i64 r)), (10, .val (.int .i64 (-r))), (11, .val (.agg #[.int .u64 (fq 0 : Nat), .int .u64 (fq 1 : Nat), .int .u64 (fq 2 : Nat), .int .u64 (fq 3 : Nat), .int .u64 (fq 4 : Nat), .int .u64 (fq 5 : Nat), .int .u64 (fq 6 : Nat), .int .u64 (fq 7 : Nat)])), (6, .box (w.heap.size + 2) (fun _ => 0))]
    (fun W => ShrSt w.heap.size w fa (fun _ => 0) W ∧ w.heap.size + 2 ≤ W.heap.size) mixedOk (by kernel_rfl) (by kernel_rfl) (⟨h1.1.below (Below.refl _ _).drew, h1.2⟩) (fun W W' h hb => ⟨h.1.below hb, Nat.le_trans h.2 hb.size⟩) ?_ ?_
  · refine gSt (gStep_run rfl ?_) ?_
    · intro ρ W hC hc hf hL
      have e2 : ρ (.tmp 2) = .pointer (some ⟨w.heap.size, 0, none⟩) := hL 2 (by decide +kernel)
      have hl := hC.1.la.1
      simp [go_sem, hc, hf, e2, hl]
      exact ⟨Below.refl _ _, rfl⟩
    refine gSt (gStep_run rfl (gRun_move 1 8 (.inl rfl) rfl (by decide +kernel) (fun v w h => h))) ?_
    refine gSt (gStep_run rfl ?_) ?_
    · intro ρ W hC hc hf hL
      have e8 : ρ (.tmp 8) = .int .i64 n := hL 8 (by decide +kernel)
      simp [go_sem, hc, hf, e8]
      refine (HR.out _).mono ?_
      rintro e w' ⟨rfl, hb⟩
      exact ⟨_, rfl, by first | exact hb | (subst hb; exact Below.refl _ _), rfl⟩
    refine gSt (gStep_run rfl ?_) ?_
    · intro ρ W hC hc hf hL
      have e9 : ρ (.tmp 9) = .int .i64 r := hL 9 (by decide +kernel)
      simp [go_sem, hc, hf, e9, hneg]
      exact ⟨Below.refl _ _, rfl⟩
    refine gSt (gStep_run rfl ?_) ?_
    · intro ρ W hC hc hf hL
      have e7 : ρ (.tmp 7) = .agg #[.int .u64 (fa 0 : Nat), .int .u64 (fa 1 : Nat), .int .u64 (fa 2 : Nat), .int .u64 (fa 3 : Nat), .int .u64 (fa 4 : Nat), .int .u64 (fa 5 : Nat), .int .u64 (fa 6 : Nat), .int .u64 (fa 7 : Nat)] := hL 7 (by decide +kernel)
      have e10 : ρ (.tmp 10) = .int .i64 (-r) := hL 10 (by decide +kernel)
      simp [go_sem, hc, hf, e7, e10]
      refine (HM.out _).mono ?_
      rintro e w' ⟨rfl, hb⟩
      exact ⟨_, rfl, by first | exact hb | (subst hb; exact Below.refl _ _), rfl⟩
    refine gSt (gStep_run rfl ?_) ?_
    · intro ρ W hC hc hf hL
      simp [go_sem, hc, hf]
      exact ⟨below_allocs _ _, _, rfl, hC.2, liesF_new _ (fun _ => 0) _, fun i => by simp [go_sem]⟩
    exact gSt0
  · intro W hC
    refine gFi 7 rfl ?_
    rintro _ rfl
    refine gFi 8 rfl ?_
    rintro _ rfl
    refine gFi 9 rfl ?_
    rintro _ rfl
    refine gFi 10 rfl ?_
    rintro _ rfl
    refine gFi 11 rfl ?_
    rintro _ rfl
    refine gFi 6 rfl ?_
    rintro _ ⟨p6, rfl, q6, l6, z6⟩
    refine gFi0 ?_
    simp only [List.drop_succ_cons, List.drop_zero]
    have hz := l6.1
    have hzl := l6.2
    have HC := hide hC
    have HL := hide l6
    clear hC h1 HST l6
    go_upto_region 2 with fail
    refine wp_gen (fun W => ShrSt w.heap.size w fa (fun _ => 0) W ∧ LiesF W p6 fq) ⟨?_, set8_same _ _ fq (fun _ => 0) HL.out⟩ ?_
    · have hs8 := below_set8 (Below.refl (w.heap.size + 2) W) p6 q6 (.int .u64 (fq 0 : Nat)) (.int .u64 (fq 1 : Nat)) (.int .u64 (fq 2 : Nat)) (.int .u64 (fq 3 : Nat)) (.int .u64 (fq 4 : Nat)) (.int .u64 (fq 5 : Nat)) (.int .u64 (fq 6 : Nat)) (.int .u64 (fq 7 : Nat))
      exact ⟨lies_box HC.out.1.la hs8 (by omega), lies_box HC.out.1.lr hs8 (by omega), fun i => (hs8.frozen (p := ⟨w.heap.size + 1, i, none⟩) (show w.heap.size + 1 < w.heap.size + 2 by omega)).trans (HC.out.1.fr i), HC.out.1.bel.trans (hs8.mono (by omega))⟩
    rintro W2 h2
    clear HC HL hz hzl z6
    have hp6 : w.heap.size + 1 < p6 := by omega
    refine wp_region_store 7 [6] [(12, .agg #[.int .u64 (fq 0 : Nat), .int .u64 (fq 1 : Nat), .int .u64 (fq 2 : Nat), .int .u64 (fq 3 : Nat), .int .u64 (fq 4 : Nat), .int .u64 (fq 5 : Nat), .int .u64 (fq 6 : Nat), .int .u64 (fq 7 : Nat)]), (13, .agg #[.int .u64 (fq 0 : Nat), .int .u64 (fq 1 : Nat), .int .u64 (fq 2 : Nat), .int .u64 (fq 3 : Nat), .int .u64 (fq 4 : Nat), .int .u64 (fq 5 : Nat), .int .u64 (fq 6 : Nat), .int .u64 (fq 7 : Nat)]), (14, .int .i64 n), (15, .agg #[.int .u64 (fu 0 : Nat), .int .u64 (fu 1 : Nat), .int .u64 (fu 2 : Nat), .int .u64 (fu 3 : Nat), .int .u64 (fu 4 : Nat), .int .u64 (fu 5 : Nat), .int .u64 (fu 6 : Nat), .int .u64 (fu 7 : Nat)]), (16, .agg #[.int .u64 (fa 0 : Nat), .int .u64 (fa 1 : Nat), .int .u64 (fa 2 : Nat), .int .u64 (fa 3 : Nat), .int .u64 (fa 4 : Nat), .int .u64 (fa 5 : Nat), .int .u64 (fa 6 : Nat), .int .u64 (fa 7 : Nat)]), (17, .bool (!t))]
      (fun bs W => ShrSt w.heap.size w fa (bif bs.headD false then fq else fun _ => 0) W ∧ LiesF W p6 fq) mixedOk (by kernel_rfl) (by kernel_rfl) (by kernel_rfl) (⟨h2.1.below (Below.refl _ _).drew, h2.2⟩) (fun bs W W' h hb => ⟨h.1.below hb, h.2.below hb⟩) ?_ ?_
    · refine sSt rfl (fun bs => gStep_run rfl ?_) ?_
      · intro ρ W hC hc hf hL
        have e6 : ρ (.tmp 6) = .pointer (some ⟨p6, 0, none⟩) := hL 6 (by decide +kernel)
        have hl := hC.2.1
        simp [go_sem, hc, hf, e6, hl]
        exact ⟨Below.refl _ _, rfl⟩
      refine sSt rfl (fun bs => gStep_run rfl ?_) ?_
      · intro ρ W hC hc hf hL
        have e6 : ρ (.tmp 6) = .pointer (some ⟨p6, 0, none⟩) := hL 6 (by decide +kernel)
        have hl := hC.2.1
        simp [go_sem, hc, hf, e6, hl]
        exact ⟨Below.refl _ _, rfl⟩
      refine sSt rfl (fun bs => gStep_run rfl (gRun_move 1 14 (.inl rfl) rfl (by decide +kernel) (fun v w h => h))) ?_
      refine sSt rfl (fun bs => gStep_run rfl ?_) ?_
      · intro ρ W hC hc hf hL
        have e13 : ρ (.tmp 13) = .agg #[.int .u64 (fq 0 : Nat), .int .u64 (fq 1 : Nat), .int .u64 (fq 2 : Nat), .int .u64 (fq 3 : Nat), .int .u64 (fq 4 : Nat), .int .u64 (fq 5 : Nat), .int .u64 (fq 6 : Nat), .int .u64 (fq 7 : Nat)] := hL 13 (by decide +kernel)
        have e14 : ρ (.tmp 14) = .int .i64 n := hL 14 (by decide +kernel)
        simp [go_sem, hc, hf, e13, e14]
        refine (HS.out _).mono ?_
        rintro e w' ⟨rfl, hb⟩
        exact ⟨_, rfl, by first | exact hb | (subst hb; exact Below.refl _ _), rfl⟩
      refine sSt rfl (fun bs => gStep_run rfl ?_) ?_
      · intro ρ W hC hc hf hL
        have e2 : ρ (.tmp 2) = .pointer (some ⟨w.heap.size, 0, none⟩) := hL 2 (by decide +kernel)
        have hl := hC.1.la.1
        simp [go_sem, hc, hf, e2, hl]
        exact ⟨Below.refl _ _, rfl⟩
      refine sSt rfl (fun bs => gStep_run rfl ?_) ?_
      · intro ρ W hC hc hf hL
        have e15 : ρ (.tmp 15) = .agg #[.int .u64 (fu 0 : Nat), .int .u64 (fu 1 : Nat), .int .u64 (fu 2 : Nat), .int .u64 (fu 3 : Nat), .int .u64 (fu 4 : Nat), .int .u64 (fu 5 : Nat), .int .u64 (fu 6 : Nat), .int .u64 (fu 7 : Nat)] := hL 15 (by decide +kernel)
        have e16 : ρ (.tmp 16) = .agg #[.int .u64 (fa 0 : Nat), .int .u64 (fa 1 : Nat), .int .u64 (fa 2 : Nat), .int .u64 (fa 3 : Nat), .int .u64 (fa 4 : Nat), .int .u64 (fa 5 : Nat), .int .u64 (fa 6 : Nat), .int .u64 (fa 7 : Nat)] := hL 16 (by decide +kernel)
        simp [go_sem, hc, hf, e15, e16, heq]
        exact ⟨Below.refl _ _, rfl⟩
      refine sStS rfl ⟨rfl, rfl, ?_⟩ ?_
      · intro φ ρ W hφ hC hc hL
        have e4 : ρ (.tmp 4) = .pointer (some ⟨w.heap.size + 1, 0, none⟩) := hL 4 (by decide +kernel)
        have e12 : ρ (.tmp 12) = .agg #[.int .u64 (fq 0 : Nat), .int .u64 (fq 1 : Nat), .int .u64 (fq 2 : Nat), .int .u64 (fq 3 : Nat), .int .u64 (fq 4 : Nat), .int .u64 (fq 5 : Nat), .int .u64 (fq 6 : Nat), .int .u64 (fq 7 : Nat)] := hL 12 (by decide +kernel)
        simp only [List.map_cons, List.map_nil, List.headD_cons, hφ, cond_false] at hC
        have hz := hC.1.lr.1
        have hzl := hC.1.lr.2
        have hzf := hC.1.fr
        simp [go_sem, hc, e4, e12, hz, hzf, hzl]
        exact ⟨hC.1.set8, lies_other hC.2 (by omega)⟩
      exact sSt0
    · intro W hC
      refine gFi 12 rfl ?_
      rintro _ rfl
      refine gFi 13 rfl ?_
      rintro _ rfl
      refine gFi 14 rfl ?_
      rintro _ rfl
      refine gFi 15 rfl ?_
      rintro _ rfl
      refine gFi 16 rfl ?_
      rintro _ rfl
      refine gFi 17 rfl ?_
      rintro _ rfl
      refine gFiN rfl ?_
      refine gFi0 ?_
      simp only [List.drop_succ_cons, List.drop_zero]
      have hr := hC.1.lr.1
      have HB := hide hC.1.bel
      clear hC
      go_wp2
      exact bodyPost_ret (v := .tuple #[.agg #[.int .u64 (fq 0 : Nat), .int .u64 (fq 1 : Nat), .int .u64 (fq 2 : Nat), .int .u64 (fq 3 : Nat), .int .u64 (fq 4 : Nat), .int .u64 (fq 5 : Nat), .int .u64 (fq 6 : Nat), .int .u64 (fq 7 : Nat)], .bool (!t)]) (by simp [results, Try.results31, go_sem, hr]) rfl ⟨rfl, HB.out⟩
    

end Go.Proofs.Ytbngaajhdaciaaa

/- Contracts: wide.Shr, as numbers; radicandref02.Sar. -/
set_option linter.unusedVariables false
set_option linter.unusedSimpArgs false
set_option maxRecDepth 8000
namespace Go.Proofs.Ytbngaajhdaciaaa
open Go.RowKit Plain

theorem w8_mod {x y : Nat} (h : x % QQ = y % QQ) : (#[.int .u64 (dgl (x) 0 : Nat), .int .u64 (dgl (x) 1 : Nat), .int .u64 (dgl (x) 2 : Nat), .int .u64 (dgl (x) 3 : Nat), .int .u64 (dgl (x) 4 : Nat), .int .u64 (dgl (x) 5 : Nat), .int .u64 (dgl (x) 6 : Nat), .int .u64 (dgl (x) 7 : Nat)] : Array Value) = #[.int .u64 (dgl (y) 0 : Nat), .int .u64 (dgl (y) 1 : Nat), .int .u64 (dgl (y) 2 : Nat), .int .u64 (dgl (y) 3 : Nat), .int .u64 (dgl (y) 4 : Nat), .int .u64 (dgl (y) 5 : Nat), .int .u64 (dgl (y) 6 : Nat), .int .u64 (dgl (y) 7 : Nat)] := by
  apply w8_congr (x := dgl x) (y := dgl y)
  intro i hi
  have h1 := wide_end (Q := 18446744073709551616) (by decide) x 8 i hi
  have h2 := wide_end (Q := 18446744073709551616) (by decide) y 8 i hi
  unfold dgl
  rw [← h1, ← h2]
  have h3 : x % 18446744073709551616 ^ 8 = y % 18446744073709551616 ^ 8 := h
  rw [h3]

theorem sh_down (a k : Nat) : sh a (-(k : Int)) = a / 2 ^ k := by
  unfold sh
  by_cases h : k = 0
  · subst h; rw [if_neg (by omega)]; simp
  · rw [if_pos (by omega), show (- -(k : Int)).toNat = k by omega]
theorem sh_up (a k : Nat) : sh a (k : Int) = a * 2 ^ k := by
  unfold sh
  rw [if_neg (by omega), Int.toNat_natCast]
theorem wide_eqb {a b : Nat} (ha : a < QQ) (hb : b < QQ) (w : World) :
    (Op.equalIn 10000 24 (.agg #[.int .u64 (dgl (a) 0 : Nat), .int .u64 (dgl (a) 1 : Nat), .int .u64 (dgl (a) 2 : Nat), .int .u64 (dgl (a) 3 : Nat), .int .u64 (dgl (a) 4 : Nat), .int .u64 (dgl (a) 5 : Nat), .int .u64 (dgl (a) 6 : Nat), .int .u64 (dgl (a) 7 : Nat)]) (.agg #[.int .u64 (dgl (b) 0 : Nat), .int .u64 (dgl (b) 1 : Nat), .int .u64 (dgl (b) 2 : Nat), .int .u64 (dgl (b) 3 : Nat), .int .u64 (dgl (b) 4 : Nat), .int .u64 (dgl (b) 5 : Nat), .int .u64 (dgl (b) 6 : Nat), .int .u64 (dgl (b) 7 : Nat)])).run Try.prog w = .ok (decide (a = b)) w := by
  by_cases h : a = b
  · subst h; rw [wide_same, decide_eq_true rfl]
  · rw [wide_diff ha hb h, decide_eq_false h]

theorem wideShr_any (a k : Nat) (n : Int) (hk : roomI n = (k : Int)) (ha : a < QQ) (w : World) :
    Calls Try.prog 31 #[.agg #[.int .u64 (dgl (a) 0 : Nat), .int .u64 (dgl (a) 1 : Nat), .int .u64 (dgl (a) 2 : Nat), .int .u64 (dgl (a) 3 : Nat), .int .u64 (dgl (a) 4 : Nat), .int .u64 (dgl (a) 5 : Nat), .int .u64 (dgl (a) 6 : Nat), .int .u64 (dgl (a) 7 : Nat)], .int .i64 n] w fun e w' => e = .returned (.tuple #[.agg #[.int .u64 (dgl (a / 2 ^ k) 0 : Nat), .int .u64 (dgl (a / 2 ^ k) 1 : Nat), .int .u64 (dgl (a / 2 ^ k) 2 : Nat), .int .u64 (dgl (a / 2 ^ k) 3 : Nat), .int .u64 (dgl (a / 2 ^ k) 4 : Nat), .int .u64 (dgl (a / 2 ^ k) 5 : Nat), .int .u64 (dgl (a / 2 ^ k) 6 : Nat), .int .u64 (dgl (a / 2 ^ k) 7 : Nat)], .bool (!decide (a / 2 ^ k * 2 ^ k = a))]) ∧ Below w.heap.size w w' := by
  have hbd := roomI_bd n
  have hq : a / 2 ^ k < QQ := Nat.lt_of_le_of_lt (Nat.div_le_self _ _) ha
  have hu : a / 2 ^ k * 2 ^ k < QQ := Nat.lt_of_le_of_lt (Nat.div_mul_le_self _ _) ha
  have hM := fun w => moved_any a 0 a (-(roomI n)) w (ext0 ha) (by omega) (by omega)
  have hS := fun w => wideShl_any (a / 2 ^ k) n hq w
  rw [hk, sh_down] at hM
  rw [hk, sh_up] at hS
  refine wideShr_walk (dgl a) (dgl (a / 2 ^ k)) (dgl (a / 2 ^ k * 2 ^ k)) n (k : Int) (decide (a / 2 ^ k * 2 ^ k = a)) w (fun w => by rw [← hk]; exact room_any n w) ?_ hM hS (fun w => wide_eqb hu ha w)
  rw [IntKind.wrap_i64]; omega

theorem shrSt_start (fa : Nat → Nat) (w : World) : ShrSt w.heap.size w fa (fun _ => 0) ((w.alloc (.cells #[.int .u64 (fa 0 : Nat), .int .u64 (fa 1 : Nat), .int .u64 (fa 2 : Nat), .int .u64 (fa 3 : Nat), .int .u64 (fa 4 : Nat), .int .u64 (fa 5 : Nat), .int .u64 (fa 6 : Nat), .int .u64 (fa 7 : Nat)] 24)).alloc (.cells #[.int .u64 0, .int .u64 0, .int .u64 0, .int .u64 0, .int .u64 0, .int .u64 0, .int .u64 0, .int .u64 0] 24)) := by
  have hlz := liesF_new (w.alloc (.cells #[.int .u64 (fa 0 : Nat), .int .u64 (fa 1 : Nat), .int .u64 (fa 2 : Nat), .int .u64 (fa 3 : Nat), .int .u64 (fa 4 : Nat), .int .u64 (fa 5 : Nat), .int .u64 (fa 6 : Nat), .int .u64 (fa 7 : Nat)] 24)) (fun _ => 0) 24
  rw [World.size_alloc] at hlz
  exact ⟨(liesF_new w fa 24).alloc _, hlz, fun i => by simp [go_sem], below_trans (below_allocs w _) (below_allocs _ _)⟩

end Go.Proofs.Ytbngaajhdaciaaa

/- radicandref02.Sar, as numbers: it tells what wide.Sar does. -/
set_option linter.unusedVariables false
set_option linter.unusedSimpArgs false
set_option maxRecDepth 8000
namespace Go.Proofs.Ytbngaajhdaciaaa
open Go.RowKit Plain

theorem qq_split (r : Nat) (hr : r ≤ 64 * 8) : QQ = 2 ^ r * 2 ^ (64 * 8 - r) := by
  rw [← Nat.pow_add, show r + (64 * 8 - r) = 64 * 8 by omega]; exact (qq_pow _ rfl).symm

theorem zz_eq (m : Nat) (hm : m = 16) : (18446744073709551616 : Nat) ^ m = QQ * 18446744073709551616 ^ 8 := by
  unfold QQ; rw [← Nat.pow_add, hm]

end Go.Proofs.Ytbngaajhdaciaaa

/- Contracts: wide.Power below 0, wide.Mask, wide.Bit below 0, wide.Low, wide.From. -/
set_option linter.unusedVariables false
set_option linter.unusedSimpArgs false
set_option maxRecDepth 8000
namespace Go.Proofs.Ytbngaajhdaciaaa
open Go.RowKit Plain

theorem wideLow_any (f : Nat → Nat) (w : World) :
    Calls Try.prog 82 #[.agg #[.int .u64 (f 0 : Nat), .int .u64 (f 1 : Nat), .int .u64 (f 2 : Nat), .int .u64 (f 3 : Nat), .int .u64 (f 4 : Nat), .int .u64 (f 5 : Nat), .int .u64 (f 6 : Nat), .int .u64 (f 7 : Nat)]] w fun e w' => e = .returned (.agg #[.int .u64 (f 1 : Nat), .int .u64 (f 0 : Nat)]) ∧ Below w.heap.size w w' := by
  go_enter Try.func82, Try.ntmps82
  go_wp2
  exact bodyPost_ret (v := .agg #[.int .u64 (f 1 : Nat), .int .u64 (f 0 : Nat)]) (by simp [results, Try.results82, go_sem]) rfl ⟨rfl, below_trans (below_allocs _ _) (below_allocs _ _)⟩

end Go.Proofs.Ytbngaajhdaciaaa

/- Likewise, where a table of relations stands through the stores. -/
set_option linter.unusedVariables false
set_option linter.unusedSimpArgs false
set_option maxRecDepth 8000
namespace Go.Proofs.Ytbngaajhdaciaaa
open Go.RowKit Plain

section
variable {P : Program} {ops : Array Oper} {n : Nat} {a : Act} {T : List (Nat × SlotIs)} {C : List Bool → World → Prop} {G : World → World → Prop} {Q : Exit → Act → World → Prop} {ss : List Nat}

end
end Go.Proofs.Ytbngaajhdaciaaa

/- Likewise, where what a slot holds hangs on which stores have been done. -/
set_option linter.unusedVariables false
set_option linter.unusedSimpArgs false
set_option maxRecDepth 8000
namespace Go.Proofs.Ytbngaajhdaciaaa
open Go.RowKit Plain

theorem gUpon_of {P : Program} {K : Value → World → Prop} {r : Result Next} (X : World) (h : gUpon P (fun _ w' => w' = X) r) (hk : ∀ v, K v X) : gUpon P K r := by
  cases r with
  | ok x w' =>
    cases x <;> simp only [gUpon] at h ⊢
    case enter f args => exact h.mono fun e w'' ⟨v, he, hw⟩ => ⟨v, he, by subst hw; exact hk v⟩
    all_goals (subst h; exact hk _)
  | halt x w' => simp only [gUpon] at h

def SlotIs.any : SlotIs := ⟨fun _ _ => True, fun _ _ _ _ h => h⟩
theorem tbl_nil_imp {a : Act} {t : Tmp} {v : Value} {w w' : World} : tbl a t [] v w → tbl a t [] v w' := fun h => h
theorem val_imp {x v : Value} {w w' : World} : (SlotIs.val x).R v w → (SlotIs.val x).R v w' := fun h => h
theorem tbl_imp {a : Act} {t : Tmp} {v : Value} {w w' : World} {p q : Nat × SlotIs} {T1 T2 : List (Nat × SlotIs)} (hk : p.1 = q.1) (h : p.1 = t → p.2.R v w → q.2.R v w') (hr : tbl a t T1 v w → tbl a t T2 v w') :
    tbl a t (p :: T1) v w → tbl a t (q :: T2) v w' := by
  unfold tbl
  rw [← hk]
  cases hb : Nat.beq p.1 t
  · exact hr
  · exact h (Nat.eq_of_beq_eq_true hb)

section
variable {P : Program} {ops : Array Oper} {n : Nat} {a : Act} {T : List Bool → List (Nat × SlotIs)} {C : List Bool → World → Prop} {Q : Exit → Act → World → Prop} {ss : List Nat}

def kStore (P : Program) (ops : Array Oper) (a : Act) (T : List Bool → List (Nat × SlotIs)) (C : List Bool → World → Prop) (ss : List Nat) (k : Nat) (o : Oper) : Prop :=
  o.dst = none ∧ o.guard = none ∧ ∀ (φ : Nat → Bool) (ρ : Operand → Value) (w : World), φ k = false → C (ss.map φ) w → (∀ c, ρ (.const c) = c) → (∀ t ∈ o.looksAt ops, tbl a t (T (ss.map φ)) (ρ (.tmp t)) w) →
    gUpon P (fun _ w' => C (ss.map fun i => φ i || Nat.beq i k) w' ∧ ∀ t, tbl a t (T (ss.map φ)) (ρ (.tmp t)) w → tbl a t (T (ss.map fun i => φ i || Nat.beq i k)) (ρ (.tmp t)) w') ((execOp ρ o).run P w)

def kStep (P : Program) (ops : Array Oper) (a : Act) (T : List Bool → List (Nat × SlotIs)) (C : List Bool → World → Prop) (ss : List Nat) (k : Nat) (o : Oper) : Prop :=
  ∀ φ : Nat → Bool, (∀ s ∈ ss, Region.waitsFor .any ops s k = true → φ s = false) → gStep P ops a (T (ss.map φ)) (C (ss.map φ)) o

def kSteps (P : Program) (ops : Array Oper) (a : Act) (T : List Bool → List (Nat × SlotIs)) (C : List Bool → World → Prop) (ss : List Nat) : Nat → List Oper → Prop
  | _, [] => True
  | k, o :: rest => (if ss.contains k then kStore P ops a T C ss k o else kStep P ops a T C ss k o) ∧ kSteps P ops a T C ss (k + 1) rest
theorem kSt {k n : Nat} {o : Oper} {l : List Oper} (hk : ss.contains k = false) (h : kStep P ops a T C ss k o) (h2 : kSteps P ops a T C ss (k + 1) (l.take n)) : kSteps P ops a T C ss k ((o :: l).take (n + 1)) := by
  rw [List.take_succ_cons]; unfold kSteps; rw [hk]; exact ⟨h, h2⟩
theorem kStS {k n : Nat} {o : Oper} {l : List Oper} (hk : ss.contains k = true) (h : kStore P ops a T C ss k o) (h2 : kSteps P ops a T C ss (k + 1) (l.take n)) : kSteps P ops a T C ss k ((o :: l).take (n + 1)) := by
  rw [List.take_succ_cons]; unfold kSteps; rw [hk]; exact ⟨h, h2⟩
theorem kSt0 {k : Nat} {l : List Oper} : kSteps P ops a T C ss k (l.take 0) := trivial
theorem kSteps_get : ∀ (l : List Oper) (k i : Nat) (o : Oper), l[i]? = some o → kSteps P ops a T C ss k l → (if ss.contains (k + i) then kStore P ops a T C ss (k + i) o else kStep P ops a T C ss (k + i) o)
  | [], k, i, o, h, _ => by simp at h
  | x :: l, k, 0, o, h, hs => by simp at h; subst h; exact hs.1
  | x :: l, k, i + 1, o, h, hs => by
    have := kSteps_get l (k + 1) i o (by simpa using h) hs.2
    rw [show k + 1 + i = k + (i + 1) by omega] at this
    exact this

structure KInv (ops : Array Oper) (n : Nat) (a : Act) (T : List Bool → List (Nat × SlotIs)) (ds : List Nat) (C : List Bool → World → Prop) (ss : List Nat) (listed : Array Bool) (A : Act) (w : World) : Prop where
  c : C (ss.map fun i => listed.getD i false) w
  sz : A.tmps.size = a.tmps.size
  df : A.defers = a.defers
  kept : ∀ t, t ∉ ds → A.tmps[t]? = a.tmps[t]?
  known : ∀ t, (∀ i oi, i < n → ops[i]? = some oi → listed.getD i true = false → oi.dst ≠ some t) → tbl a t (T (ss.map fun i => listed.getD i false)) (A.eval (.tmp t)) w

theorem growK_any {ds : List Nat} (hTd : ∀ bs, (T bs).map Prod.fst = ds) (hB : gOkB ops n ds = true) (hss : ∀ i ∈ ss, i < n) (hCs : ∀ bs w w', C bs w → Below w.heap.size w w' → C bs w') (hsz : ∀ d ∈ ds, d < a.tmps.size)
    (hst : kSteps P ops a T C ss 0 (ops.toList.take n)) (hf : ∀ w', C (ss.map fun _ => true) w' → gFin a (T (ss.map fun _ => true)) (fun a' => wpList P ops Q (ops.toList.drop n) a' w') w' (ops.toList.take n) a) :
    ∀ (f : Nat) (L : List Nat) (listed : Array Bool) (A : Act) (w : World), L.length = f → L.Nodup → (∀ i, i ∈ L ↔ (i < n ∧ listed.getD i true = false)) →
      HeadInv .any ops n listed → KInv ops n a T ds C ss listed A w → wpAny P .any ops Q (f + (ops.size - n)) listed A w := by
  simp only [gOkB, Bool.and_eq_true, decide_eq_true_eq] at hB
  obtain ⟨⟨⟨⟨⟨hn, hlook⟩, hd⟩, hnd⟩, htail⟩, hseq⟩ := hB
  have hlk : ∀ j o, j < n → ops[j]? = some o → (∀ t ∈ o.looksAt ops, ∀ i oi, i < n → ops[i]? = some oi → oi.dst = some t → ∃ e ∈ o.after, Region.binds .any e = true ∧ e.on = i) ∧ (∀ e ∈ o.after, Region.binds .any e = true → e.on < j) := by
    intro j o hj ho
    have h1 := List.all_eq_true.1 hlook j (List.mem_range.2 hj)
    simp only [ho, Bool.and_eq_true] at h1
    constructor
    · intro t ht i oi hi hoi hdi
      have h2 := List.all_eq_true.1 (List.all_eq_true.1 h1.1 t ht) i (List.mem_range.2 hi)
      simp only [hoi, hdi, Bool.or_eq_true] at h2
      rcases h2 with h2 | h2
      · have : Nat.beq t t = true := Nat.beq_refl t
        rw [this] at h2; cases h2
      · obtain ⟨oj, hoj, e, he, hb, hon⟩ := Region.waitsFor_spec h2
        have : oj = o := Option.some.inj (hoj.symm.trans ho)
        subst this
        exact ⟨e, he, hb, hon⟩
    · intro e he hb
      have h2 := (Array.all_eq_true_iff_forall_mem.1 h1.2) e he
      simp only [hb, Bool.not_true, Bool.false_or, decide_eq_true_eq] at h2
      exact h2
  have hdst : ∀ i o, i < n → ops[i]? = some o → ∀ d, o.dst = some d → d ∈ ds := fun i o hi ho d hdo => by
    rw [← hd]
    refine List.mem_filterMap.2 ⟨o, ?_, hdo⟩
    rw [List.mem_iff_getElem?]
    exact ⟨i, by rw [List.getElem?_take_of_lt hi, Array.getElem?_toList]; exact ho⟩
  intro f
  induction f with
  | zero =>
    intro L listed A w hl hnd' hL hinv inv
    have hall : ∀ i, i < n → listed.getD i true = true := fun i hi => by
      cases hc : listed.getD i true
      · have := (hL i).2 ⟨hi, hc⟩
        rw [List.length_eq_zero_iff.1 hl] at this; cases this
      · rfl
    have hlist : listed = Array.replicate n true ++ Array.replicate (ops.size - n) false := by
      apply Array.ext_getElem?
      intro i
      by_cases h1 : i < n
      · have h2 := hall i h1
        have h3 : i < listed.size := by rw [hinv.size]; omega
        simp [h3] at h2
        rw [Array.getElem?_append_left (by simpa using h1)]
        simp [h1, h3, h2]
      · by_cases h4 : i < ops.size
        · have h2 := hinv.tail i (by omega) h4
          have h3 : i < listed.size := by rw [hinv.size]; omega
          simp [h3] at h2
          rw [Array.getElem?_append_right (by simp; omega), Array.getElem?_eq_getElem h3, Array.getElem?_replicate, if_pos (by simp; omega), h2]
        · rw [Array.getElem?_eq_none (by rw [hinv.size]; omega), Array.getElem?_eq_none (by simp; omega)]
    rw [Nat.zero_add]
    have hmap : (ss.map fun i => listed.getD i false) = ss.map fun _ => true := List.map_congr_left (fun i hi => by
      have h1 := hall i (hss i hi)
      have h3 : i < listed.size := by rw [hinv.size]; have := hss i hi; omega
      simp [h3] at h1 ⊢; exact h1)
    have hc1 := inv.c
    have hk1 := inv.known
    rw [hmap] at hc1 hk1
    have hQ := gFin_use (a := a) (T := T (ss.map fun _ => true)) (w := w) _ A a inv.sz inv.df (by rw [hd]; exact hnd) (fun t ht => inv.kept t (by rw [← hd]; exact ht)) (fun d hdm => hk1 d (fun i oi hi hoi hli => by rw [hall i hi] at hli; cases hli)) (hf w hc1)
    have := wpAny_of_seq (md := .any) (Q' := Q) (ops.toList.drop n) n listed A w (fun j => by simp [List.getElem?_drop]) (by rw [hlist]; simpa using hseq) hQ
    simpa using this
  | succ f ih =>
    intro L listed A w hl hnd' hL hinv inv
    have hne : ∃ i, i < n ∧ listed.getD i true = false := by
      cases L with
      | nil => cases hl
      | cons i L => exact ⟨i, (hL i).1 (by simp)⟩
    have hready : Region.ready .any ops listed ≠ [] := by
      intro hr
      obtain ⟨i, hi, hli⟩ := hne
      have key : ∀ m, ∀ j, j < m → j < n → listed.getD j true = true := by
        intro m
        induction m with
        | zero => intro j hj; omega
        | succ m ihm =>
          intro j hj hjn
          rcases Nat.lt_or_ge j m with h | h
          · exact ihm j h hjn
          · cases hc : listed.getD j true
            · have hjs : j < ops.size := by omega
              have : j ∈ Region.ready .any ops listed := mem_ready.2 ⟨hc, ops[j], by simp [hjs], fun e he hb => by
                have h1 := (hlk j ops[j] hjn (by simp [hjs])).2 e he hb
                have h2 := ihm e.on (by omega) (by omega)
                have h3 : e.on < listed.size := by rw [hinv.size]; omega
                simp [h3] at h2 ⊢; exact h2⟩
              rw [hr] at this; cases this
            · rfl
      rw [key (i + 1) i (by omega) hi] at hli; cases hli
    rw [show f + 1 + (ops.size - n) = (f + (ops.size - n)) + 1 by omega]
    refine ⟨fun h => absurd h hready, fun i hi => ?_⟩
    have hin : i < n := by
      rcases Nat.lt_or_ge i n with h | h
      · exact h
      · simp only [Bool.or_eq_true, Bool.and_eq_true, decide_eq_true_eq] at htail
        rcases htail with ht | ⟨⟨h1, h2⟩, h3⟩
        · obtain ⟨_, o, ho, _⟩ := mem_ready.1 hi
          have := (Array.getElem?_eq_some_iff.1 ho).1
          omega
        · obtain ⟨k, hk, hlk'⟩ := hne
          exact absurd hi (tail_waits h2 h3 h1 hinv _ k rfl hk hlk' i h)
    obtain ⟨hun, o, ho, hafter⟩ := mem_ready.1 hi
    have hlooks : ∀ t ∈ o.looksAt ops, tbl a t (T (ss.map fun i => listed.getD i false)) (A.eval (.tmp t)) w := fun t ht => inv.known t (fun j oj hj hoj hlj hdj => by
      obtain ⟨e, he, hb, hon⟩ := (hlk i o hin ho).1 t ht j oj hj hoj hdj
      have h1 := hafter e he hb
      rw [hon, getD_both hlj] at h1; cases h1)
    have hnext : ∀ v w', (∀ t, tbl a t (T (ss.map fun i => listed.getD i false)) (A.eval (.tmp t)) w → tbl a t (T (ss.map fun j => (listed.setIfInBounds i true).getD j false)) (A.eval (.tmp t)) w') → (match o.dst with | some d => tbl a d (T (ss.map fun j => (listed.setIfInBounds i true).getD j false)) v w' | none => True) → C (ss.map fun j => (listed.setIfInBounds i true).getD j false) w' →
        wpAny P .any ops Q (f + (ops.size - n)) (listed.setIfInBounds i true) (A.put o.dst v) w' := fun v w' hmon hp hc' => by
      refine ih (L.erase i) _ _ _ ?_ (hnd'.erase i) (fun j => ?_) (hinv.set hi hin) ⟨hc', by rw [put_sz]; exact inv.sz, by rw [put_df]; exact inv.df, fun t ht => ?_, fun t ht => ?_⟩
      · rw [List.length_erase_of_mem ((hL i).2 ⟨hin, hun⟩), hl]; rfl
      · rw [hnd'.mem_erase_iff, hL j]
        constructor
        · rintro ⟨h1, h2, h3⟩
          exact ⟨h2, by rw [getD_set_ne true (fun e => h1 e.symm)]; exact h3⟩
        · rintro ⟨h2, h3⟩
          by_cases hij : i = j
          · subst hij
            have : i < listed.size := by rw [hinv.size]; omega
            simp [this] at h3
          · rw [getD_set_ne true hij] at h3
            exact ⟨fun e => hij e.symm, h2, h3⟩
      · rw [← inv.kept t ht]
        cases hdo : o.dst with
        | none => rfl
        | some d =>
          have : d ≠ t := fun e => ht (e ▸ hdst i o hin ho d hdo)
          simp [Act.put, Array.getElem?_setIfInBounds_ne this]
      · by_cases hdt : o.dst = some t
        · rw [hdt] at hp
          have e : (A.put o.dst v).eval (.tmp t) = v := by
            rw [hdt]
            have : t < A.tmps.size := by rw [inv.sz]; exact hsz t (hdst i o hin ho t hdt)
            simp [Act.put, Act.eval, this]
          rw [e]; exact hp
        · have e : (A.put o.dst v).eval (.tmp t) = A.eval (.tmp t) := Act.eval_put (fun d h1 h2 => hdt (by rw [h1]; cases h2; rfl))
          rw [e]
          refine hmon t (inv.known t fun j oj hj hoj hl => ?_)
          by_cases hij : i = j
          · subst hij
            have : oj = o := Option.some.inj (hoj.symm.trans ho)
            subst this; exact hdt
          · exact ht j oj hj hoj (by rw [getD_set_ne true hij]; exact hl)
    have hget := kSteps_get _ 0 i o (by rw [List.getElem?_take_of_lt hin, Array.getElem?_toList]; exact ho) hst
    rw [Nat.zero_add] at hget
    have hils : i < listed.size := by rw [hinv.size]; omega
    unfold wpOp
    simp only [ho]
    cases hsi : ss.contains i with
    | true =>
      rw [hsi] at hget
      obtain ⟨hd0, hg0, hgo⟩ := hget
      have hw : Region.wanted o (yielded ops A.tmps) = true := by unfold Region.wanted; rw [hg0]
      rw [if_pos hw]
      have hmp : (ss.map fun j => listed.getD j false || Nat.beq j i) = ss.map fun j => (listed.setIfInBounds i true).getD j false := List.map_congr_left (fun j _ => by
        by_cases hij : i = j
        · subst hij
          have : Nat.beq i i = true := Nat.beq_refl i
          simp [hils, this]
        · rw [getD_set_ne false hij]
          have : Nat.beq j i = false := by
            cases hb : Nat.beq j i
            · rfl
            · exact absurd (Nat.eq_of_beq_eq_true hb).symm hij
          simp [this])
      have hrun := hgo (fun j => listed.getD j false) A.eval w (getD_both hun) inv.c (fun _ => rfl) hlooks
      rw [hmp] at hrun
      exact .inl (wp_of_gOp (fun v w' hk => hnext v w' hk.2 (by rw [hd0]; trivial) hk.1) hrun)
    | false =>
      rw [hsi] at hget
      have hstep := hget (fun j => listed.getD j false) (fun s hs hw => by
        obtain ⟨os, hos, e, he, hb, hon⟩ := Region.waitsFor_spec hw
        cases hl2 : listed.getD s false
        · rfl
        · have h2 := hinv.closed s os hos hl2 e he hb
          rw [hon, getD_both hun] at h2
          cases h2) A w inv.c hlooks
      have hsame : (ss.map fun j => (listed.setIfInBounds i true).getD j false) = ss.map fun j => listed.getD j false := List.map_congr_left (fun j hj => by
        refine getD_set_ne false (fun e => ?_)
        subst e
        rw [List.contains_iff_mem.2 hj] at hsi
        cases hsi)
      have go : ∀ v w', gPost a (T (ss.map fun j => listed.getD j false)) o w v w' → wpAny P .any ops Q (f + (ops.size - n)) (listed.setIfInBounds i true) (A.put o.dst v) w' := fun v w' hp =>
        hnext v w' (fun t => by rw [hsame]; exact tbl_mono a t _ w w' hp.1 _) (by rw [hsame]; exact hp.2) (by rw [hsame]; exact hCs _ _ _ inv.c hp.1)
      split
      · rename_i hw
        simp only [hw, if_true] at hstep
        exact .inl (wp_of_gOp go hstep)
      · rename_i hw
        simp only [hw] at hstep
        exact go _ _ hstep

theorem wp_region_storeK {id : Nat} {w : World} {l : List Oper} (n : Nat) (ss : List Nat) (ds : List Nat) (T : List Bool → List (Nat × SlotIs)) (C : List Bool → World → Prop) (hTd : ∀ bs, (T bs).map Prod.fst = ds) (hm : P.follows .mixedOrders = true) (hB : gOkB l.toArray n ds = true)
    (hsz : ds.all (fun d => Nat.blt d a.tmps.size) = true) (hss : ss.all (fun i => Nat.blt i n) = true) (hC : C (ss.map fun _ => false) w.drew) (hCs : ∀ bs w w', C bs w → Below w.heap.size w w' → C bs w')
    (hst : kSteps P l.toArray a T C ss 0 (l.take n)) (hf : ∀ w', C (ss.map fun _ => true) w' → gFin a (T (ss.map fun _ => true)) (fun a' => wpList P l.toArray Q (l.drop n) a' w') w' (l.take n) a) :
    (Code.region id l.toArray true).wp P Q a w := by
  refine wp_region_any hm ?_
  have hn : n ≤ l.toArray.size := by
    simp only [gOkB, Bool.and_eq_true, decide_eq_true_eq] at hB
    exact hB.1.1.1.1.1
  have := growK_any (P := P) (ops := l.toArray) (n := n) (a := a) (T := T) (C := C) (ss := ss) (Q := Q) hTd hB (fun i hi => by have := List.all_eq_true.1 hss i hi; simpa [Nat.blt_eq] using this) hCs (fun d hd => by have := List.all_eq_true.1 hsz d hd; simpa [Nat.blt_eq] using this) (by simpa using hst) (by simpa using hf) n (List.range n) (Array.replicate l.toArray.size false) a w.drew (by simp) List.nodup_range
    (fun i => by
      rw [List.mem_range]
      constructor
      · intro h
        have : i < l.length := by have : n ≤ l.length := by simpa using hn
                                  omega
        exact ⟨h, by simp [this]⟩
      · exact fun h => h.1)
    ⟨by simp, fun j oj _ hl => (by rw [getD_replicate_false] at hl; cases hl), fun t _ ht => getD_in (by simpa using ht) (getD_replicate_false _ _)⟩
    ⟨by rw [List.map_congr_left (g := fun _ => false) (fun i _ => getD_replicate_false _ _)]; exact hC, rfl, rfl, fun _ _ => rfl, fun t ht => tbl_out a t _ _ rfl (T _) (fun hmem => by
      rw [hTd] at hmem
      have hd : ((l.toArray.toList.take n).filterMap (·.dst)) = ds := by
        simp only [gOkB, Bool.and_eq_true, decide_eq_true_eq] at hB
        exact hB.1.1.1.2
      rw [← hd] at hmem
      obtain ⟨o, ho, hdo⟩ := List.mem_filterMap.1 hmem
      obtain ⟨i, hi⟩ := List.mem_iff_getElem?.1 ho
      have hin : i < n := by
        rcases Nat.lt_or_ge i n with h | h
        · exact h
        · rw [List.getElem?_eq_none (by simp; omega)] at hi; cases hi
      rw [List.getElem?_take_of_lt hin] at hi
      have hil : i < l.length := by
        rcases Nat.lt_or_ge i l.length with h | h
        · exact h
        · rw [List.getElem?_eq_none h] at hi; cases hi
      exact ht i o hin (by simpa using hi) (by simp [hil]) hdo)⟩
  rwa [show n + (l.toArray.size - n) = l.toArray.size by omega] at this
end
end Go.Proofs.Ytbngaajhdaciaaa

/- Likewise, where the region lays several blocks of its own: the slots that hold them are told apart. -/
set_option linter.unusedVariables false
set_option linter.unusedSimpArgs false
set_option maxRecDepth 8000
namespace Go.Proofs.Ytbngaajhdaciaaa
open Go.RowKit Plain

/-- The blocks that the slots fs hold are there, and no two are the same. -/
def apart (fs : List Nat) (e : Operand → Value) (w : World) : Prop :=
  (∀ x ∈ fs, ∀ b, e (.tmp x) = .pointer (some ⟨b, 0, none⟩) → b < w.heap.size) ∧ ∀ x ∈ fs, ∀ y ∈ fs, x ≠ y → ∀ b, e (.tmp x) = .pointer (some ⟨b, 0, none⟩) → e (.tmp y) ≠ .pointer (some ⟨b, 0, none⟩)
section
variable {P : Program} {ops : Array Oper} {n : Nat} {a : Act} {T : List Bool → List (Nat × SlotIs)} {C : List Bool → World → Prop} {Q : Exit → Act → World → Prop} {ss : List Nat} {fs : List Nat}

end
end Go.Proofs.Ytbngaajhdaciaaa

/- Sums, differences and signs of wides, as numbers. -/
set_option linter.unusedVariables false
set_option linter.unusedSimpArgs false
set_option maxRecDepth 8000
namespace Go.Proofs.Ytbngaajhdaciaaa
open Go.RowKit Plain

theorem neg_eq (a : Nat) (ha : a < QQ) : subQ 0 a = if a = 0 then 0 else QQ - a := by
  have h := subW_eq (β := 18446744073709551616) (by decide) 8 0 a
  have hlt := subQ_lt 0 a
  have hbo : bor 18446744073709551616 0 a 8 = if 0 < a then 1 else 0 := by
    unfold bor
    rw [show a % 18446744073709551616 ^ 8 = a from Nat.mod_eq_of_lt ha, Nat.zero_mod]
  rw [hbo, show a % 18446744073709551616 ^ 8 = a from Nat.mod_eq_of_lt ha, Nat.zero_mod] at h
  have e : subQ 0 a + a = 0 + QQ * (if 0 < a then 1 else 0) := h
  by_cases h0 : a = 0
  · rw [if_pos h0]; rw [if_neg (by omega)] at e; omega
  · rw [if_neg h0]; rw [if_pos (by omega)] at e; omega
theorem neg_neg (a : Nat) (ha : a < QQ) : subQ 0 (subQ 0 a) = a := by
  rw [neg_eq (subQ 0 a) (subQ_lt 0 a), neg_eq a ha]
  by_cases h0 : a = 0
  · rw [if_pos h0, if_pos rfl, h0]
  · rw [if_neg h0, if_neg (by omega)]; omega

theorem bitLen_lt (a : Nat) : a < 2 ^ Go.bitLen a := by
  unfold Go.bitLen
  split
  · rename_i h; rw [h]; decide
  · exact Nat.lt_log2_self
theorem bitLen_le (a q : Nat) (h : a < 2 ^ q) : Go.bitLen a ≤ q := by
  unfold Go.bitLen
  split
  · omega
  · rename_i h0
    have := (Nat.log2_lt h0).2 h
    omega

end Go.Proofs.Ytbngaajhdaciaaa

/- The sum of limbs' products, as numbers. -/
set_option linter.unusedVariables false
set_option linter.unusedSimpArgs false
set_option maxRecDepth 8000
namespace Go.Proofs.Ytbngaajhdaciaaa
open Go.RowKit Plain

/-- A limb. -/
def LW : Nat := 18446744073709551616
theorem lw_pos : 0 < LW := by decide
theorem dgl_lw (n k : Nat) : dgl n k = n / LW ^ k % LW := rfl

/-- The product of two limbs, if it is wanted. -/
def cw (a b : Nat) (wt : Nat → Bool) (i k : Nat) : Nat := bif wt (i + k) then dgl a i * dgl b k else 0
def rowS (a b : Nat) (wt : Nat → Bool) (i : Nat) : Nat → Nat
  | 0 => 0
  | k + 1 => rowS a b wt i k + cw a b wt i k * LW ^ (i + k)
def allS (a b : Nat) (wt : Nat → Bool) : Nat → Nat
  | 0 => 0
  | i + 1 => allS a b wt i + rowS a b wt i 8

theorem row_zero (a b : Nat) (wt : Nat → Bool) (i : Nat) (h : dgl a i = 0) : ∀ k, rowS a b wt i k = 0
  | 0 => rfl
  | k + 1 => by
    unfold rowS cw
    rw [row_zero a b wt i h k, h, Nat.zero_mul]
    cases wt (i + k) <;> simp

structure PInv (a b : Nat) (wt : Nat → Bool) (i k c : Nat) (o : List Nat) : Prop where
  len : o.length = 16
  lt : ∀ j, dg o j < LW
  hi : ∀ j, i + 8 ≤ j → dg o j = 0
  cl : c < LW
  sum : val LW o + c * LW ^ (i + k) = allS a b wt i + rowS a b wt i k

theorem pinv_start (a b : Nat) (wt : Nat → Bool) : PInv a b wt 0 0 0 (List.replicate 16 0) :=
  ⟨rfl, fun j => by rw [dg_zeros]; exact lw_pos, fun j _ => dg_zeros _ _, lw_pos, by rw [val_zeros]; rfl⟩

theorem cw_le (a b : Nat) (wt : Nat → Bool) (i k : Nat) : cw a b wt i k ≤ (LW - 1) * (LW - 1) := by
  unfold cw
  cases wt (i + k)
  · exact Nat.zero_le _
  · have h1 := dgl_lt a i
    have h2 := dgl_lt b k
    exact Nat.mul_le_mul (by unfold LW; omega) (by unfold LW; omega)

theorem pinv_step {a b i k c : Nat} {wt : Nat → Bool} {o : List Nat} (h : PInv a b wt i k c o) (hi : i < 8) (hk : k < 8) (hh l s1 c1 s2 c2 : Nat)
    (hm : l + LW * hh = cw a b wt i k) (h1 : s1 + LW * c1 = dg o (i + k) + l) (h2 : s2 + LW * c2 = s1 + c) (hs2 : s2 < LW) :
    hh + c1 + c2 < LW ∧ PInv a b wt i (k + 1) (hh + c1 + c2) (o.set (i + k) s2) := by
  have hlt : i + k < o.length := by rw [h.len]; omega
  have hc : hh + c1 + c2 < LW := by
    have e1 := cw_le a b wt i k
    have e2 := h.lt (i + k)
    have e3 := h.cl
    unfold LW at *
    omega
  refine ⟨hc, by rw [List.length_set]; exact h.len, fun j => ?_, fun j hj => ?_, hc, ?_⟩
  · rw [dg_set _ _ _ _ hlt]
    split
    · exact hs2
    · exact h.lt j
  · rw [dg_set _ _ _ _ hlt, if_neg (by omega)]
    exact h.hi j hj
  · have hv := val_set LW o (i + k) s2 hlt
    have hs := h.sum
    unfold rowS
    rw [← Nat.add_assoc (allS a b wt i), ← hs, ← hm, ← Nat.add_assoc i k 1, Nat.pow_succ]
    have e : s2 + LW * (hh + c1 + c2) = dg o (i + k) + c + (l + LW * hh) := by
      rw [Nat.mul_add, Nat.mul_add]; omega
    generalize LW ^ (i + k) = Q at *
    have e2 : (s2 + LW * (hh + c1 + c2)) * Q = (dg o (i + k) + c + (l + LW * hh)) * Q := by rw [e]
    rw [Nat.add_mul, Nat.add_mul, Nat.add_mul] at e2
    have e3 : (hh + c1 + c2) * (Q * LW) = LW * (hh + c1 + c2) * Q := by ac_rfl
    rw [e3]
    omega

theorem pinv_row {a b i c : Nat} {wt : Nat → Bool} {o : List Nat} (h : PInv a b wt i 8 c o) (hi : i < 8) : PInv a b wt (i + 1) 0 0 (o.set (i + 8) c) := by
  have hlt : i + 8 < o.length := by rw [h.len]; omega
  refine ⟨by rw [List.length_set]; exact h.len, fun j => ?_, fun j hj => ?_, lw_pos, ?_⟩
  · rw [dg_set _ _ _ _ hlt]
    split
    · exact h.cl
    · exact h.lt j
  · rw [dg_set _ _ _ _ hlt, if_neg (by omega)]
    exact h.hi j (by omega)
  · have hv := val_set LW o (i + 8) c hlt
    rw [h.hi (i + 8) (Nat.le_refl _)] at hv
    have hs := h.sum
    show _ = allS a b wt i + rowS a b wt i 8 + 0
    omega
theorem pinv_skip {a b i : Nat} {wt : Nat → Bool} {o : List Nat} (h : PInv a b wt i 0 0 o) (h0 : dgl a i = 0) : PInv a b wt (i + 1) 0 0 o := by
  refine ⟨h.len, h.lt, fun j hj => h.hi j (by omega), lw_pos, ?_⟩
  have hs := h.sum
  show _ = allS a b wt i + rowS a b wt i 8 + 0
  rw [row_zero a b wt i h0]
  have : rowS a b wt i 0 = 0 := rfl
  omega

theorem pinv_end {a b : Nat} {wt : Nat → Bool} {o : List Nat} (h : PInv a b wt 8 0 0 o) : (∀ j, dg o j = dgl (allS a b wt 8) j) ∧ allS a b wt 8 < LW ^ 16 := by
  have hd := val_dig lw_pos o h.lt
  have hs := h.sum
  have hv : val LW o = allS a b wt 8 := by
    have : rowS a b wt 8 0 = 0 := rfl
    omega
  rw [hv] at hd
  exact ⟨fun j => hd.2 j, by have := hd.1; rw [h.len] at this; exact this⟩

theorem mod_up (a k : Nat) : a % LW ^ (k + 1) = a % LW ^ k + LW ^ k * dgl a k := by
  rw [Nat.pow_succ, Nat.mod_mul]; rfl
theorem row_all (a b i : Nat) : ∀ k, rowS a b (fun _ => true) i k = dgl a i * LW ^ i * (b % LW ^ k)
  | 0 => by rw [Nat.pow_zero, Nat.mod_one, Nat.mul_zero]; rfl
  | k + 1 => by
    unfold rowS
    rw [row_all a b i k, mod_up, Nat.mul_add]
    congr 1
    show dgl a i * dgl b k * LW ^ (i + k) = _
    rw [Nat.pow_add]; ac_rfl
theorem all_all (a b : Nat) : ∀ i, allS a b (fun _ => true) i = (a % LW ^ i) * (b % LW ^ 8)
  | 0 => by rw [Nat.pow_zero, Nat.mod_one, Nat.zero_mul]; rfl
  | i + 1 => by
    unfold allS
    rw [all_all a b i, row_all, mod_up a i, Nat.add_mul]
    congr 1
    ac_rfl
theorem all_mul (a b : Nat) (ha : a < QQ) (hb : b < QQ) : allS a b (fun _ => true) 8 = a * b := by
  rw [all_all, show a % LW ^ 8 = a from Nat.mod_eq_of_lt ha, show b % LW ^ 8 = b from Nat.mod_eq_of_lt hb]

theorem dgl_high (n j : Nat) : dgl n (8 + j) = dgl (n / QQ) j := by
  unfold dgl QQ
  rw [Nat.pow_add, Nat.div_div_eq_div_mul]

end Go.Proofs.Ytbngaajhdaciaaa

/- Contracts: prod.summed. -/
set_option linter.unusedVariables false
set_option linter.unusedSimpArgs false
set_option maxRecDepth 8000
namespace Go.Proofs.Ytbngaajhdaciaaa
open Go.RowKit Plain

theorem idx_run (f : Nat → Nat) (i : Nat) (hi : i < 8) (w : World) : (Instr.index 24 (.agg #[.int .u64 (f 0 : Nat), .int .u64 (f 1 : Nat), .int .u64 (f 2 : Nat), .int .u64 (f 3 : Nat), .int .u64 (f 4 : Nat), .int .u64 (f 5 : Nat), .int .u64 (f 6 : Nat), .int .u64 (f 7 : Nat)]) (.int .i64 (i : Nat))).run Try.prog w = .ok (.int .u64 (f i : Nat)) w := by
  match i, hi with
  | 0, _ => simp [Instr.index, go_sem, run_underlying Try.underlying24]
  | 1, _ => simp [Instr.index, go_sem, run_underlying Try.underlying24]
  | 2, _ => simp [Instr.index, go_sem, run_underlying Try.underlying24]
  | 3, _ => simp [Instr.index, go_sem, run_underlying Try.underlying24]
  | 4, _ => simp [Instr.index, go_sem, run_underlying Try.underlying24]
  | 5, _ => simp [Instr.index, go_sem, run_underlying Try.underlying24]
  | 6, _ => simp [Instr.index, go_sem, run_underlying Try.underlying24]
  | 7, _ => simp [Instr.index, go_sem, run_underlying Try.underlying24]

structure SumSt (w : World) (b : Nat) (o : List Nat) (wr : World) : Prop where
  lb : LiesF wr (w.heap.size + 1) (dgl b)
  own : wr.ownsRow w.heap.size 100 1 (.slice (some ⟨w.heap.size + 1 + 1 + 1, 0, none⟩) 16 16) 16 (o.map mk64)
  res : wr.ownsRow w.heap.size 100 1 (.slice (some ⟨w.heap.size + 1 + 1, 0, none⟩) 16 16) 16 ((List.replicate 16 0).map mk64)
  bel : Below w.heap.size w wr

theorem SumSt.start (w : World) (a b : Nat) : SumSt w b (List.replicate 16 0) ((((w.alloc (.cells #[.int .u64 (dgl (a) 0 : Nat), .int .u64 (dgl (a) 1 : Nat), .int .u64 (dgl (a) 2 : Nat), .int .u64 (dgl (a) 3 : Nat), .int .u64 (dgl (a) 4 : Nat), .int .u64 (dgl (a) 5 : Nat), .int .u64 (dgl (a) 6 : Nat), .int .u64 (dgl (a) 7 : Nat)] 24)).alloc (.cells #[.int .u64 (dgl (b) 0 : Nat), .int .u64 (dgl (b) 1 : Nat), .int .u64 (dgl (b) 2 : Nat), .int .u64 (dgl (b) 3 : Nat), .int .u64 (dgl (b) 4 : Nat), .int .u64 (dgl (b) 5 : Nat), .int .u64 (dgl (b) 6 : Nat), .int .u64 (dgl (b) 7 : Nat)] 24)).alloc (.cells #[.int .u64 0, .int .u64 0, .int .u64 0, .int .u64 0, .int .u64 0, .int .u64 0, .int .u64 0, .int .u64 0, .int .u64 0, .int .u64 0, .int .u64 0, .int .u64 0, .int .u64 0, .int .u64 0, .int .u64 0, .int .u64 0] 100)).alloc (.cells #[.int .u64 0, .int .u64 0, .int .u64 0, .int .u64 0, .int .u64 0, .int .u64 0, .int .u64 0, .int .u64 0, .int .u64 0, .int .u64 0, .int .u64 0, .int .u64 0, .int .u64 0, .int .u64 0, .int .u64 0, .int .u64 0] 100)) := by
  have h1 := liesF_new (w.alloc (.cells #[.int .u64 (dgl (a) 0 : Nat), .int .u64 (dgl (a) 1 : Nat), .int .u64 (dgl (a) 2 : Nat), .int .u64 (dgl (a) 3 : Nat), .int .u64 (dgl (a) 4 : Nat), .int .u64 (dgl (a) 5 : Nat), .int .u64 (dgl (a) 6 : Nat), .int .u64 (dgl (a) 7 : Nat)] 24)) (dgl b) 24
  have h2 := World.ownsRow_lit (base := w.heap.size) (e := 100) (size := 1) ((w.alloc (.cells #[.int .u64 (dgl (a) 0 : Nat), .int .u64 (dgl (a) 1 : Nat), .int .u64 (dgl (a) 2 : Nat), .int .u64 (dgl (a) 3 : Nat), .int .u64 (dgl (a) 4 : Nat), .int .u64 (dgl (a) 5 : Nat), .int .u64 (dgl (a) 6 : Nat), .int .u64 (dgl (a) 7 : Nat)] 24)).alloc (.cells #[.int .u64 (dgl (b) 0 : Nat), .int .u64 (dgl (b) 1 : Nat), .int .u64 (dgl (b) 2 : Nat), .int .u64 (dgl (b) 3 : Nat), .int .u64 (dgl (b) 4 : Nat), .int .u64 (dgl (b) 5 : Nat), .int .u64 (dgl (b) 6 : Nat), .int .u64 (dgl (b) 7 : Nat)] 24)) #[.int .u64 0, .int .u64 0, .int .u64 0, .int .u64 0, .int .u64 0, .int .u64 0, .int .u64 0, .int .u64 0, .int .u64 0, .int .u64 0, .int .u64 0, .int .u64 0, .int .u64 0, .int .u64 0, .int .u64 0, .int .u64 0] 16 (by simp; omega) (by simp [maxLen]) rfl
  have h3 := World.ownsRow_lit (base := w.heap.size) (e := 100) (size := 1) (((w.alloc (.cells #[.int .u64 (dgl (a) 0 : Nat), .int .u64 (dgl (a) 1 : Nat), .int .u64 (dgl (a) 2 : Nat), .int .u64 (dgl (a) 3 : Nat), .int .u64 (dgl (a) 4 : Nat), .int .u64 (dgl (a) 5 : Nat), .int .u64 (dgl (a) 6 : Nat), .int .u64 (dgl (a) 7 : Nat)] 24)).alloc (.cells #[.int .u64 (dgl (b) 0 : Nat), .int .u64 (dgl (b) 1 : Nat), .int .u64 (dgl (b) 2 : Nat), .int .u64 (dgl (b) 3 : Nat), .int .u64 (dgl (b) 4 : Nat), .int .u64 (dgl (b) 5 : Nat), .int .u64 (dgl (b) 6 : Nat), .int .u64 (dgl (b) 7 : Nat)] 24)).alloc (.cells #[.int .u64 0, .int .u64 0, .int .u64 0, .int .u64 0, .int .u64 0, .int .u64 0, .int .u64 0, .int .u64 0, .int .u64 0, .int .u64 0, .int .u64 0, .int .u64 0, .int .u64 0, .int .u64 0, .int .u64 0, .int .u64 0] 100)) #[.int .u64 0, .int .u64 0, .int .u64 0, .int .u64 0, .int .u64 0, .int .u64 0, .int .u64 0, .int .u64 0, .int .u64 0, .int .u64 0, .int .u64 0, .int .u64 0, .int .u64 0, .int .u64 0, .int .u64 0, .int .u64 0] 16 (by simp; omega) (by simp [maxLen]) rfl
  simp only [World.size_alloc] at h1 h2 h3
  exact ⟨(h1.alloc _).alloc _, h3, h2.alloc _, below_trans (below_trans (below_trans (below_allocs _ _) (below_allocs _ _)) (below_allocs _ _)) (below_allocs _ _)⟩

theorem SumSt.store {w : World} {b : Nat} {o : List Nat} {wr : World} (h : SumSt w b o wr) (hl : o.length = 16) (j d : Nat) : SumSt w b (o.set j d) (wr.setCell ⟨w.heap.size + 1 + 1 + 1, j, none⟩ (.int .u64 (d : Nat))) := by
  have hs := owns_store (mk := mk64) h.own j d h.bel (by omega)
  have hr := h.res.kept (h.own.stored j (mk64 d)).2 (.inr (by simp [Value.ownBlock]))
  refine ⟨⟨fun i hi => ?_, by simpa using h.lb.2⟩, hs.1, hr, hs.2⟩
  have := h.lb.1 i hi
  simp [go_sem, this]

set_option maxHeartbeats 4000000 in
theorem summed_any (fid : Nat) (caps : Array Value) (wt : Nat → Bool) (a b : Nat) (w : World)
    (hent : ∀ args w, (callFunc fid args).run Try.prog w = .ok (.enter fid args) w)
    (hcall : ∀ (p : Nat) wr, p < 16 → Below w.heap.size w wr → Calls Try.prog fid (#[.int .i64 (p : Nat)] ++ caps) wr fun e w' => e = .returned (.bool (wt p)) ∧ w' = wr) :
    Calls Try.prog 77 #[.agg #[.int .u64 (dgl (a) 0 : Nat), .int .u64 (dgl (a) 1 : Nat), .int .u64 (dgl (a) 2 : Nat), .int .u64 (dgl (a) 3 : Nat), .int .u64 (dgl (a) 4 : Nat), .int .u64 (dgl (a) 5 : Nat), .int .u64 (dgl (a) 6 : Nat), .int .u64 (dgl (a) 7 : Nat)], .agg #[.int .u64 (dgl (b) 0 : Nat), .int .u64 (dgl (b) 1 : Nat), .int .u64 (dgl (b) 2 : Nat), .int .u64 (dgl (b) 3 : Nat), .int .u64 (dgl (b) 4 : Nat), .int .u64 (dgl (b) 5 : Nat), .int .u64 (dgl (b) 6 : Nat), .int .u64 (dgl (b) 7 : Nat)], .func (.func fid) #[] caps] w fun e w' => e = .returned (.agg #[.int .u64 (dgl (allS a b wt 8) 0 : Nat), .int .u64 (dgl (allS a b wt 8) 1 : Nat), .int .u64 (dgl (allS a b wt 8) 2 : Nat), .int .u64 (dgl (allS a b wt 8) 3 : Nat), .int .u64 (dgl (allS a b wt 8) 4 : Nat), .int .u64 (dgl (allS a b wt 8) 5 : Nat), .int .u64 (dgl (allS a b wt 8) 6 : Nat), .int .u64 (dgl (allS a b wt 8) 7 : Nat), .int .u64 (dgl (allS a b wt 8) 8 : Nat), .int .u64 (dgl (allS a b wt 8) 9 : Nat), .int .u64 (dgl (allS a b wt 8) 10 : Nat), .int .u64 (dgl (allS a b wt 8) 11 : Nat), .int .u64 (dgl (allS a b wt 8) 12 : Nat), .int .u64 (dgl (allS a b wt 8) 13 : Nat), .int .u64 (dgl (allS a b wt 8) 14 : Nat), .int .u64 (dgl (allS a b wt 8) 15 : Nat)]) ∧ Below w.heap.size w w' := by
  have HC := hide hcall
  clear hcall
  generalize hS : allS a b wt 8 = S
  have HSS := hide hS
  clear hS
  have HS0 := hide (SumSt.start w a b)
  go_enter Try.func77, Try.ntmps77
  go_wp2
  go_loopw [19] (fun i wr => ∃ (k : Nat) (o : List Nat), k ≤ 8 ∧ i = .int .i64 k ∧ Hid (PInv a b wt k 0 0 o) ∧ Hid (SumSt w b o wr))
    (fun i _ => 8 - (intOf i).toNat)
  case atStart => exact ⟨0, List.replicate 16 0, by omega, rfl, pinv_start a b wt, HS0.out⟩
  case round =>
    clear HS0
    obtain ⟨i, o, hi, rfl, hpi, hst⟩ := hrel
    by_cases hlt : i < 8
    · have hj1 : (i : Int) < 8 := by omega
      have hia := fun w => idx_run (dgl a) i hlt w
      have hda := dgl_lt a i
      by_cases h0 : dgl a i = 0
      · have HP := hide (pinv_skip hpi.out h0)
        rw [h0] at hia
        clear hpi h0 hda
        go_wp2
        go_roundw
        case rel => exact ⟨i + 1, o, by omega, by go_num, HP, hst⟩
        case measure => simp [intOf]; omega
      · have h0' : (((dgl a i : Nat) : Int) == 0) = false := by rw [beq_eq_false_iff_ne]; omega
        have hlb := hst.out.lb.1
        generalize hx : dgl a i = x at *
        have HX := hide hx
        clear hx
        go_wp2
        clear hlb h0 h0'
        go_loopw [10, 26] (fun c k wr => ∃ (kk c' : Nat) (o : List Nat), kk ≤ 8 ∧ k = .int .i64 kk ∧ c = .int .u64 c' ∧ Hid (PInv a b wt i kk c' o) ∧ Hid (SumSt w b o wr))
          (fun _ k _ => 8 - (intOf k).toNat)
        case atStart => exact ⟨0, 0, o, by omega, rfl, rfl, hpi, hst⟩
        case round =>
          clear hpi hst
          obtain ⟨k, c, o, hk, rfl, rfl, hpi, hst⟩ := hrel
          by_cases hlt2 : k < 8
          · have hj2 : (k : Int) < 8 := by omega
            have hib := fun w => idx_run (dgl b) k hlt2 w
            have hdb := dgl_lt b k
            have hik : (i : Int) + (k : Int) < 16 := by omega
            have hco : wr.cell? ⟨w.heap.size + 1 + 1 + 1, i + k, none⟩ = some (.int .u64 (dg o (i + k) : Nat)) := owns_cell hst.out.own hpi.out.len (i + k) (by omega)
            have hfo : wr.frozen? ⟨w.heap.size + 1 + 1 + 1, i + k, none⟩ = false := hst.out.own.frozenAt _
            have ho : dg o (i + k) < 18446744073709551616 := hpi.out.lt _
            have hcl : c < 18446744073709551616 := hpi.out.cl
            have HLEN := hide hpi.out.len
            have HSTEP := hide (fun hh l s1 c1 s2 c2 hm h1 h2 hs2 => pinv_step hpi.out hlt hlt2 hh l s1 c1 s2 c2 hm h1 h2 hs2)
            clear hpi
            generalize dg o (i + k) = od at *
            have HCP := hide (unhide HC (i + k) wr (by omega) hst.out.bel)
            rw [Int.natCast_add] at HCP
            have hAdd : ∀ (s1 c1 : Nat) (HH LO : Nat), True := fun _ _ _ _ => trivial
            clear hAdd
            cases hw : wt (i + k)
            · rw [hw] at HCP
              have HCW := hide (show cw a b wt i k = 0 by unfold cw; rw [hw]; rfl)
              clear hw
              go_wp2_with fail
              refine HCP.out.mono ?_
              rintro e w' ⟨rfl, hw'⟩
              subst w'
              go_wp2_with fail
              refine (add_nat od 0 0 _).mono ?_
              rintro e w' ⟨s1, c1, rfl, hs1, he1, hw'⟩
              subst w'
              go_wp2_with fail
              refine (add_nat s1 c 0 _).mono ?_
              rintro e w' ⟨s2, c2, rfl, hs2, he2, hw'⟩
              subst w'
              have he1' : s1 + 18446744073709551616 * c1 = od + 0 := he1
              have he2' : s2 + 18446744073709551616 * c2 = s1 + c := he2
              obtain ⟨hlt3, hpi2⟩ := HSTEP.out 0 0 s1 c1 s2 c2 (by rw [HCW.out]; rfl) he1' he2' hs2
              have HP2 := hide hpi2
              have hlt4 : (c1 : Int) + (c2 : Int) < 18446744073709551616 := by unfold LW at hlt3; omega
              have hlt5 : (c1 : Int) < 18446744073709551616 := by omega
              clear he1 he2 he1' he2' hpi2 hlt3
              go_wp2
              go_roundw
              case rel =>
                exact ⟨k + 1, 0 + c1 + c2, _, by omega, by go_num, by rw [Nat.zero_add, Int.natCast_add], HP2, hst.out.store HLEN.out (i + k) s2⟩
              case measure => simp [intOf]; omega
            · rw [hw] at HCP
              have HCW := hide (show cw a b wt i k = x * dgl b k by unfold cw; rw [hw, HX.out]; rfl)
              clear hw
              generalize dgl b k = y at *
              go_wp2_with fail
              refine HCP.out.mono ?_
              rintro e w' ⟨rfl, hw'⟩
              subst w'
              go_wp2_with fail
              refine (mul_nat x y hda hdb _).mono ?_
              rintro e w' ⟨hh, l, rfl, hhl, hll, hml, hw'⟩
              subst w'
              go_wp2_with fail
              refine (add_nat od l 0 _).mono ?_
              rintro e w' ⟨s1, c1, rfl, hs1, he1, hw'⟩
              subst w'
              go_wp2_with fail
              refine (add_nat s1 c 0 _).mono ?_
              rintro e w' ⟨s2, c2, rfl, hs2, he2, hw'⟩
              subst w'
              have he1' : s1 + 18446744073709551616 * c1 = od + l := he1
              have he2' : s2 + 18446744073709551616 * c2 = s1 + c := he2
              obtain ⟨hlt3, hpi2⟩ := HSTEP.out hh l s1 c1 s2 c2 (by rw [HCW.out]; exact hml) he1' he2' hs2
              have HP2 := hide hpi2
              have hlt4 : (hh : Int) + (c1 : Int) + (c2 : Int) < 18446744073709551616 := by unfold LW at hlt3; omega
              have hlt5 : (hh : Int) + (c1 : Int) < 18446744073709551616 := by omega
              clear he1 he2 he1' he2' hpi2 hlt3 hml
              go_wp2
              go_roundw
              case rel =>
                exact ⟨k + 1, hh + c1 + c2, _, by omega, by go_num, by rw [Int.natCast_add, Int.natCast_add], HP2, hst.out.store HLEN.out (i + k) s2⟩
              case measure => simp [intOf]; omega
          · have hk8 : k = 8 := by omega
            subst hk8
            have hco : wr.cell? ⟨w.heap.size + 1 + 1 + 1, i + 8, none⟩ = some (.int .u64 (dg o (i + 8) : Nat)) := owns_cell hst.out.own hpi.out.len (i + 8) (by omega)
            have hfo : wr.frozen? ⟨w.heap.size + 1 + 1 + 1, i + 8, none⟩ = false := hst.out.own.frozenAt _
            have HP2 := hide (pinv_row hpi.out hlt)
            have HLEN := hide hpi.out.len
            have hik : (i : Int) + 8 < 16 := by omega
            clear hpi
            generalize dg o (i + 8) = od at *
            go_wp2
            go_roundw
            case rel => exact ⟨i + 1, _, by omega, by go_num, HP2, hst.out.store HLEN.out (i + 8) c⟩
            case measure => simp [intOf]; omega
    · have hk8 : i = 8 := by omega
      subst hk8
      obtain ⟨hdig, -⟩ := pinv_end hpi.out
      rw [HSS.out] at hdig
      have hv : ∀ j, j < 16 → wr.cell? ⟨w.heap.size + 1 + 1 + 1, j, none⟩ = some (.int .u64 (dgl S j : Nat)) := fun j hj => by rw [owns_cell hst.out.own hpi.out.len j hj, hdig j]; rfl
      have hr : ∀ j, j < 16 → wr.cell? ⟨w.heap.size + 1 + 1, j, none⟩ = some (.int .u64 (dg (List.replicate 16 0) j : Nat)) := fun j hj => owns_cell hst.out.res (by simp) j hj
      have hfr : ∀ j, wr.frozen? ⟨w.heap.size + 1 + 1, j, none⟩ = false := fun j => hst.out.res.frozenAt j
      have HB := hide hst.out.bel
      clear hpi hst hdig
      go_wp2
      exact bodyPost_ret (v := .agg #[.int .u64 (dgl (S) 0 : Nat), .int .u64 (dgl (S) 1 : Nat), .int .u64 (dgl (S) 2 : Nat), .int .u64 (dgl (S) 3 : Nat), .int .u64 (dgl (S) 4 : Nat), .int .u64 (dgl (S) 5 : Nat), .int .u64 (dgl (S) 6 : Nat), .int .u64 (dgl (S) 7 : Nat), .int .u64 (dgl (S) 8 : Nat), .int .u64 (dgl (S) 9 : Nat), .int .u64 (dgl (S) 10 : Nat), .int .u64 (dgl (S) 11 : Nat), .int .u64 (dgl (S) 12 : Nat), .int .u64 (dgl (S) 13 : Nat), .int .u64 (dgl (S) 14 : Nat), .int .u64 (dgl (S) 15 : Nat)]) (by simp [results, Try.results77, go_sem, hr]) rfl ⟨rfl, ((((((((((((((((HB.out.setCell (p := ⟨w.heap.size + 1 + 1, 0, none⟩) (by simp; omega) _).setCell (p := ⟨w.heap.size + 1 + 1, 1, none⟩) (by simp; omega) _).setCell (p := ⟨w.heap.size + 1 + 1, 2, none⟩) (by simp; omega) _).setCell (p := ⟨w.heap.size + 1 + 1, 3, none⟩) (by simp; omega) _).setCell (p := ⟨w.heap.size + 1 + 1, 4, none⟩) (by simp; omega) _).setCell (p := ⟨w.heap.size + 1 + 1, 5, none⟩) (by simp; omega) _).setCell (p := ⟨w.heap.size + 1 + 1, 6, none⟩) (by simp; omega) _).setCell (p := ⟨w.heap.size + 1 + 1, 7, none⟩) (by simp; omega) _).setCell (p := ⟨w.heap.size + 1 + 1, 8, none⟩) (by simp; omega) _).setCell (p := ⟨w.heap.size + 1 + 1, 9, none⟩) (by simp; omega) _).setCell (p := ⟨w.heap.size + 1 + 1, 10, none⟩) (by simp; omega) _).setCell (p := ⟨w.heap.size + 1 + 1, 11, none⟩) (by simp; omega) _).setCell (p := ⟨w.heap.size + 1 + 1, 12, none⟩) (by simp; omega) _).setCell (p := ⟨w.heap.size + 1 + 1, 13, none⟩) (by simp; omega) _).setCell (p := ⟨w.heap.size + 1 + 1, 14, none⟩) (by simp; omega) _).setCell (p := ⟨w.heap.size + 1 + 1, 15, none⟩) (by simp; omega) _)⟩

end Go.Proofs.Ytbngaajhdaciaaa

