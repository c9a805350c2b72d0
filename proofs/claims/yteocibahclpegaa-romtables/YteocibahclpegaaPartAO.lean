/- Contracts and laws: GrowB, GrowS, GrowG, WideQ, WideR, WideS, WideU, ProdA, ProdB, ProdC, ProdD, ProdE, GrowP, WideV. -/
import Derived.Test.YteocibahclpegaaPartAM
import Derived.Test.YteocibahclpegaaPartAN
import Derived.Deep.DeepCutAuto
/- The steps of such a region, one law for each kind of operation. -/
set_option linter.unusedVariables false
set_option linter.unusedSimpArgs false
set_option maxRecDepth 8000
namespace Go.Proofs.Yteocibahclpegaa
open Go.RowKit Plain

section
variable {ops : Array Oper} {a : Act} {T : List (Nat × SlotIs)} {C : World → Prop} {o : Oper}

def gRun (a : Act) (T : List (Nat × SlotIs)) (C : World → Prop) (o : Oper) (looks : List Tmp) : Prop :=
  ∀ (ρ : Operand → Value) (w : World), C w → (∀ c, ρ (.const c) = c) → (∀ f, ρ (.func f) = .func (.func f) #[] #[]) → (∀ t ∈ looks, tbl a t T (ρ (.tmp t)) w) →
    gUpon Try.prog (gPost a T o w) ((execOp ρ o).run Try.prog w)

theorem gStep_run (hg : o.guard = none) (h : gRun a T C o (o.looksAt ops)) : gStep Try.prog ops a T C o := by
  intro A w hC hL
  have hw : Region.wanted o (yielded ops A.tmps) = true := by unfold Region.wanted; rw [hg]
  rw [if_pos hw]
  exact h A.eval w hC (fun _ => rfl) (fun _ => rfl) hL

/-- Moves. -/
theorem gRun_move {looks : List Tmp} (x d : Tmp) (ho : o.op = .move (.tmp x) ∨ o.op = .assign (.tmp x)) (hd : o.dst = some d) (hx : x ∈ looks) (h : ∀ v w, tbl a x T v w → tbl a d T v w) : gRun a T C o looks := by
  intro ρ w hC hc hf hL
  have hr : (execOp ρ o).run Try.prog w = .ok (.value (ρ (.tmp x))) w := by
    obtain ⟨dst, op, type, pos, after, guard⟩ := o
    rcases ho with ho | ho <;> (simp only at ho; subst ho; rfl)
  rw [hr]
  refine ⟨Below.refl _ _, ?_⟩
  rw [hd]
  exact h _ _ (hL x hx)
end

/-- A new block of the call's own that holds eight limbs. -/
def SlotIs.box (B : Nat) (f : Nat → Nat) : SlotIs :=
  ⟨fun v w => ∃ b, v = .pointer (some ⟨b, 0, none⟩) ∧ B ≤ b ∧ LiesF w b f ∧ ∀ i, w.frozen? ⟨b, i, none⟩ = false,
   fun v w w' hb ⟨b, h1, h2, h3, h4⟩ => ⟨b, h1, h2, h3.below hb, fun i => (hb.frozen (p := ⟨b, i, none⟩) h3.2).trans (h4 i)⟩⟩
def SlotIs.big (n K : Nat) : SlotIs := ⟨fun v w => BigV w v n K, fun v w w' hb h => h.below hb⟩

end Go.Proofs.Yteocibahclpegaa

/- Likewise, where some of the operations store into blocks that nobody else reads: the class of worlds tells which of them have been done. -/
set_option linter.unusedVariables false
set_option linter.unusedSimpArgs false
set_option maxRecDepth 8000
namespace Go.Proofs.Yteocibahclpegaa
open Go.RowKit Plain

/-- A table of plain values. -/
def vals (L : List (Nat × Value)) : List (Nat × SlotIs) := L.map fun p => (p.1, .val p.2)
theorem vals_still (a : Act) (t : Tmp) (v : Value) (w w' : World) : ∀ L : List (Nat × Value), tbl a t (vals L) v w → tbl a t (vals L) v w'
  | [] => fun h => h
  | p :: L => by
    unfold vals
    rw [List.map_cons]
    unfold tbl
    cases Nat.beq (p.1, SlotIs.val p.2).1 t
    · exact vals_still a t v w w' L
    · exact fun h => h

section
variable {P : Program} {ops : Array Oper} {n : Nat} {a : Act} {T : List (Nat × SlotIs)} {C : List Bool → World → Prop} {Q : Exit → Act → World → Prop} {ss : List Nat}

def gStore (P : Program) (ops : Array Oper) (a : Act) (T : List (Nat × SlotIs)) (C : List Bool → World → Prop) (ss : List Nat) (k : Nat) (o : Oper) : Prop :=
  o.dst = none ∧ o.guard = none ∧ ∀ (φ : Nat → Bool) (ρ : Operand → Value) (w : World), φ k = false → C (ss.map φ) w → (∀ c, ρ (.const c) = c) → (∀ t ∈ o.looksAt ops, tbl a t T (ρ (.tmp t)) w) →
    gUpon P (fun _ w' => C (ss.map fun i => φ i || Nat.beq i k) w') ((execOp ρ o).run P w)

def sSteps (P : Program) (ops : Array Oper) (a : Act) (T : List (Nat × SlotIs)) (C : List Bool → World → Prop) (ss : List Nat) : Nat → List Oper → Prop
  | _, [] => True
  | k, o :: rest => (if ss.contains k then gStore P ops a T C ss k o else ∀ bs, gStep P ops a T (C bs) o) ∧ sSteps P ops a T C ss (k + 1) rest
theorem sSt {k n : Nat} {o : Oper} {l : List Oper} (hk : ss.contains k = false) (h : ∀ bs, gStep P ops a T (C bs) o) (h2 : sSteps P ops a T C ss (k + 1) (l.take n)) : sSteps P ops a T C ss k ((o :: l).take (n + 1)) := by
  rw [List.take_succ_cons]; unfold sSteps; rw [hk]; exact ⟨h, h2⟩
theorem sStS {k n : Nat} {o : Oper} {l : List Oper} (hk : ss.contains k = true) (h : gStore P ops a T C ss k o) (h2 : sSteps P ops a T C ss (k + 1) (l.take n)) : sSteps P ops a T C ss k ((o :: l).take (n + 1)) := by
  rw [List.take_succ_cons]; unfold sSteps; rw [hk]; exact ⟨h, h2⟩
theorem sSt0 {k : Nat} {l : List Oper} : sSteps P ops a T C ss k (l.take 0) := trivial
theorem sSteps_get : ∀ (l : List Oper) (k i : Nat) (o : Oper), l[i]? = some o → sSteps P ops a T C ss k l → (if ss.contains (k + i) then gStore P ops a T C ss (k + i) o else ∀ bs, gStep P ops a T (C bs) o)
  | [], k, i, o, h, _ => by simp at h
  | x :: l, k, 0, o, h, hs => by simp at h; subst h; exact hs.1
  | x :: l, k, i + 1, o, h, hs => by
    have := sSteps_get l (k + 1) i o (by simpa using h) hs.2
    rw [show k + 1 + i = k + (i + 1) by omega] at this
    exact this

structure SInv (ops : Array Oper) (n : Nat) (a : Act) (T : List (Nat × SlotIs)) (C : List Bool → World → Prop) (ss : List Nat) (listed : Array Bool) (A : Act) (w : World) : Prop where
  c : C (ss.map fun i => listed.getD i false) w
  sz : A.tmps.size = a.tmps.size
  df : A.defers = a.defers
  kept : ∀ t, t ∉ T.map Prod.fst → A.tmps[t]? = a.tmps[t]?
  known : ∀ t, (∀ i oi, i < n → ops[i]? = some oi → listed.getD i true = false → oi.dst ≠ some t) → tbl a t T (A.eval (.tmp t)) w

theorem growS_any (hB : gOkB ops n (T.map Prod.fst) = true) (hss : ∀ i ∈ ss, i < n) (hCs : ∀ bs w w', C bs w → Below w.heap.size w w' → C bs w') (hTs : ∀ t v w w', tbl a t T v w → tbl a t T v w') (hsz : ∀ d ∈ T.map Prod.fst, d < a.tmps.size)
    (hst : sSteps P ops a T C ss 0 (ops.toList.take n)) (hf : ∀ w', C (ss.map fun _ => true) w' → gFin a T (fun a' => wpList P ops Q (ops.toList.drop n) a' w') w' (ops.toList.take n) a) :
    ∀ (f : Nat) (L : List Nat) (listed : Array Bool) (A : Act) (w : World), L.length = f → L.Nodup → (∀ i, i ∈ L ↔ (i < n ∧ listed.getD i true = false)) →
      HeadInv .any ops n listed → SInv ops n a T C ss listed A w → wpAny P .any ops Q (f + (ops.size - n)) listed A w := by
  simp only [gOkB, Bool.and_eq_true, decide_eq_true_eq] at hB
  obtain ⟨⟨⟨⟨⟨hn, hlook⟩, hd⟩, hnd⟩, htail⟩, hseq⟩ := hB
  have hlk : ∀ j o, j < n → ops[j]? = some o → (∀ t ∈ o.looksAt ops, ∀ i oi, i < n → ops[i]? = some oi → oi.dst = some t → ∃ e ∈ o.after, Region.binds .any e = true ∧ e.on = i) ∧ (∀ e ∈ o.after, Region.binds .any e = true → e.on < j) := by
    intro j o hj ho
    have h1 := List.all_eq_true.1 hlook j (List.mem_range.2 hj)
    simp only [ho, Bool.and_eq_true] at h1
    constructor
    · intro t ht i oi hi hoi hdi
      have h2 := List.all_eq_true.1 (List.all_eq_true.1 h1.1 t ht) i (List.mem_range.2 hi)
      simp only [hoi, hdi, Bool.or_eq_true] at h2
      rcases h2 with h2 | h2
      · have : Nat.beq t t = true := Nat.beq_refl t
        rw [this] at h2; cases h2
      · obtain ⟨oj, hoj, e, he, hb, hon⟩ := Region.waitsFor_spec h2
        have : oj = o := Option.some.inj (hoj.symm.trans ho)
        subst this
        exact ⟨e, he, hb, hon⟩
    · intro e he hb
      have h2 := (Array.all_eq_true_iff_forall_mem.1 h1.2) e he
      simp only [hb, Bool.not_true, Bool.false_or, decide_eq_true_eq] at h2
      exact h2
  have hdst : ∀ i o, i < n → ops[i]? = some o → ∀ d, o.dst = some d → d ∈ T.map Prod.fst := fun i o hi ho d hdo => by
    rw [← hd]
    refine List.mem_filterMap.2 ⟨o, ?_, hdo⟩
    rw [List.mem_iff_getElem?]
    exact ⟨i, by rw [List.getElem?_take_of_lt hi, Array.getElem?_toList]; exact ho⟩
  intro f
  induction f with
  | zero =>
    intro L listed A w hl hnd' hL hinv inv
    have hall : ∀ i, i < n → listed.getD i true = true := fun i hi => by
      cases hc : listed.getD i true
      · have := (hL i).2 ⟨hi, hc⟩
        rw [List.length_eq_zero_iff.1 hl] at this; cases this
      · rfl
    have hlist : listed = Array.replicate n true ++ Array.replicate (ops.size - n) false := by
      apply Array.ext_getElem?
      intro i
      by_cases h1 : i < n
      · have h2 := hall i h1
        have h3 : i < listed.size := by rw [hinv.size]; omega
        simp [h3] at h2
        rw [Array.getElem?_append_left (by simpa using h1)]
        simp [h1, h3, h2]
      · by_cases h4 : i < ops.size
        · have h2 := hinv.tail i (by omega) h4
          have h3 : i < listed.size := by rw [hinv.size]; omega
          simp [h3] at h2
          rw [Array.getElem?_append_right (by simp; omega), Array.getElem?_eq_getElem h3, Array.getElem?_replicate, if_pos (by simp; omega), h2]
        · rw [Array.getElem?_eq_none (by rw [hinv.size]; omega), Array.getElem?_eq_none (by simp; omega)]
    rw [Nat.zero_add]
    have hQ := gFin_use (a := a) (T := T) (w := w) _ A a inv.sz inv.df (by rw [hd]; exact hnd) (fun t ht => inv.kept t (by rw [← hd]; exact ht)) (fun d hdm => inv.known d (fun i oi hi hoi hli => by rw [hall i hi] at hli; cases hli)) (hf w (by rw [← List.map_congr_left (f := fun i => listed.getD i false) (g := fun _ => true) (fun i hi => by have h1 := hall i (hss i hi); have h3 : i < listed.size := by {rw [hinv.size]; have := hss i hi; omega}; simp [h3] at h1 ⊢; exact h1)]; exact inv.c))
    have := wpAny_of_seq (md := .any) (Q' := Q) (ops.toList.drop n) n listed A w (fun j => by simp [List.getElem?_drop]) (by rw [hlist]; simpa using hseq) hQ
    simpa using this
  | succ f ih =>
    intro L listed A w hl hnd' hL hinv inv
    have hne : ∃ i, i < n ∧ listed.getD i true = false := by
      cases L with
      | nil => cases hl
      | cons i L => exact ⟨i, (hL i).1 (by simp)⟩
    have hready : Region.ready .any ops listed ≠ [] := by
      intro hr
      obtain ⟨i, hi, hli⟩ := hne
      have key : ∀ m, ∀ j, j < m → j < n → listed.getD j true = true := by
        intro m
        induction m with
        | zero => intro j hj; omega
        | succ m ihm =>
          intro j hj hjn
          rcases Nat.lt_or_ge j m with h | h
          · exact ihm j h hjn
          · cases hc : listed.getD j true
            · have hjs : j < ops.size := by omega
              have : j ∈ Region.ready .any ops listed := mem_ready.2 ⟨hc, ops[j], by simp [hjs], fun e he hb => by
                have h1 := (hlk j ops[j] hjn (by simp [hjs])).2 e he hb
                have h2 := ihm e.on (by omega) (by omega)
                have h3 : e.on < listed.size := by rw [hinv.size]; omega
                simp [h3] at h2 ⊢; exact h2⟩
              rw [hr] at this; cases this
            · rfl
      rw [key (i + 1) i (by omega) hi] at hli; cases hli
    rw [show f + 1 + (ops.size - n) = (f + (ops.size - n)) + 1 by omega]
    refine ⟨fun h => absurd h hready, fun i hi => ?_⟩
    have hin : i < n := by
      rcases Nat.lt_or_ge i n with h | h
      · exact h
      · simp only [Bool.or_eq_true, Bool.and_eq_true, decide_eq_true_eq] at htail
        rcases htail with ht | ⟨⟨h1, h2⟩, h3⟩
        · obtain ⟨_, o, ho, _⟩ := mem_ready.1 hi
          have := (Array.getElem?_eq_some_iff.1 ho).1
          omega
        · obtain ⟨k, hk, hlk'⟩ := hne
          exact absurd hi (tail_waits h2 h3 h1 hinv _ k rfl hk hlk' i h)
    obtain ⟨hun, o, ho, hafter⟩ := mem_ready.1 hi
    have hlooks : ∀ t ∈ o.looksAt ops, tbl a t T (A.eval (.tmp t)) w := fun t ht => inv.known t (fun j oj hj hoj hlj hdj => by
      obtain ⟨e, he, hb, hon⟩ := (hlk i o hin ho).1 t ht j oj hj hoj hdj
      have h1 := hafter e he hb
      rw [hon, getD_both hlj] at h1; cases h1)
    have hnext : ∀ v w', (match o.dst with | some d => tbl a d T v w' | none => True) → C (ss.map fun j => (listed.setIfInBounds i true).getD j false) w' →
        wpAny P .any ops Q (f + (ops.size - n)) (listed.setIfInBounds i true) (A.put o.dst v) w' := fun v w' hp hc' => by
      refine ih (L.erase i) _ _ _ ?_ (hnd'.erase i) (fun j => ?_) (hinv.set hi hin) ⟨hc', by rw [put_sz]; exact inv.sz, by rw [put_df]; exact inv.df, fun t ht => ?_, fun t ht => ?_⟩
      · rw [List.length_erase_of_mem ((hL i).2 ⟨hin, hun⟩), hl]; rfl
      · rw [hnd'.mem_erase_iff, hL j]
        constructor
        · rintro ⟨h1, h2, h3⟩
          exact ⟨h2, by rw [getD_set_ne true (fun e => h1 e.symm)]; exact h3⟩
        · rintro ⟨h2, h3⟩
          by_cases hij : i = j
          · subst hij
            have : i < listed.size := by rw [hinv.size]; omega
            simp [this] at h3
          · rw [getD_set_ne true hij] at h3
            exact ⟨fun e => hij e.symm, h2, h3⟩
      · rw [← inv.kept t ht]
        cases hdo : o.dst with
        | none => rfl
        | some d =>
          have : d ≠ t := fun e => ht (e ▸ hdst i o hin ho d hdo)
          simp [Act.put, Array.getElem?_setIfInBounds_ne this]
      · by_cases hdt : o.dst = some t
        · rw [hdt] at hp
          have e : (A.put o.dst v).eval (.tmp t) = v := by
            rw [hdt]
            have : t < A.tmps.size := by rw [inv.sz]; exact hsz t (hdst i o hin ho t hdt)
            simp [Act.put, Act.eval, this]
          rw [e]; exact hp
        · have e : (A.put o.dst v).eval (.tmp t) = A.eval (.tmp t) := Act.eval_put (fun d h1 h2 => hdt (by rw [h1]; cases h2; rfl))
          rw [e]
          refine hTs t _ w w' (inv.known t fun j oj hj hoj hl => ?_)
          by_cases hij : i = j
          · subst hij
            have : oj = o := Option.some.inj (hoj.symm.trans ho)
            subst this; exact hdt
          · exact ht j oj hj hoj (by rw [getD_set_ne true hij]; exact hl)
    have hget := sSteps_get _ 0 i o (by rw [List.getElem?_take_of_lt hin, Array.getElem?_toList]; exact ho) hst
    rw [Nat.zero_add] at hget
    have hils : i < listed.size := by rw [hinv.size]; omega
    unfold wpOp
    simp only [ho]
    cases hsi : ss.contains i with
    | true =>
      rw [hsi] at hget
      obtain ⟨hd0, hg0, hgo⟩ := hget
      have hw : Region.wanted o (yielded ops A.tmps) = true := by unfold Region.wanted; rw [hg0]
      rw [if_pos hw]
      refine .inl (wp_of_gOp (fun v w' hk => hnext v w' (by rw [hd0]; trivial) ?_) (hgo (fun j => listed.getD j false) A.eval w (getD_both hun) inv.c (fun _ => rfl) hlooks))
      rw [← List.map_congr_left (f := fun j => listed.getD j false || Nat.beq j i) (g := fun j => (listed.setIfInBounds i true).getD j false) (fun j _ => ?_)]
      · exact hk
      · by_cases hij : i = j
        · subst hij
          have : Nat.beq i i = true := Nat.beq_refl i
          simp [hils, this]
        · rw [getD_set_ne false hij]
          have : Nat.beq j i = false := by
            cases hb : Nat.beq j i
            · rfl
            · exact absurd (Nat.eq_of_beq_eq_true hb).symm hij
          simp [this]
    | false =>
      rw [hsi] at hget
      have hstep := hget _ A w inv.c hlooks
      have hsame : (ss.map fun j => (listed.setIfInBounds i true).getD j false) = ss.map fun j => listed.getD j false := List.map_congr_left (fun j hj => by
        refine getD_set_ne false (fun e => ?_)
        subst e
        rw [List.contains_iff_mem.2 hj] at hsi
        cases hsi)
      have go : ∀ v w', gPost a T o w v w' → wpAny P .any ops Q (f + (ops.size - n)) (listed.setIfInBounds i true) (A.put o.dst v) w' := fun v w' hp =>
        hnext v w' hp.2 (by rw [hsame]; exact hCs _ _ _ inv.c hp.1)
      split
      · rename_i hw
        simp only [hw, if_true] at hstep
        exact .inl (wp_of_gOp go hstep)
      · rename_i hw
        simp only [hw] at hstep
        exact go _ _ hstep

theorem wp_region_store {id : Nat} {w : World} {l : List Oper} (n : Nat) (ss : List Nat) (LV : List (Nat × Value)) (C : List Bool → World → Prop) (hm : P.follows .mixedOrders = true) (hB : gOkB l.toArray n ((vals LV).map Prod.fst) = true)
    (hsz : ((vals LV).map Prod.fst).all (fun d => Nat.blt d a.tmps.size) = true) (hss : ss.all (fun i => Nat.blt i n) = true) (hC : C (ss.map fun _ => false) w.drew) (hCs : ∀ bs w w', C bs w → Below w.heap.size w w' → C bs w')
    (hst : sSteps P l.toArray a (vals LV) C ss 0 (l.take n)) (hf : ∀ w', C (ss.map fun _ => true) w' → gFin a (vals LV) (fun a' => wpList P l.toArray Q (l.drop n) a' w') w' (l.take n) a) :
    (Code.region id l.toArray true).wp P Q a w := by
  refine wp_region_any hm ?_
  have hn : n ≤ l.toArray.size := by
    simp only [gOkB, Bool.and_eq_true, decide_eq_true_eq] at hB
    exact hB.1.1.1.1.1
  have := growS_any (P := P) (ops := l.toArray) (n := n) (a := a) (T := vals LV) (C := C) (ss := ss) (Q := Q) hB (fun i hi => by have := List.all_eq_true.1 hss i hi; simpa [Nat.blt_eq] using this) hCs (fun t v w w' h => vals_still a t v w w' LV h) (fun d hd => by have := List.all_eq_true.1 hsz d hd; simpa [Nat.blt_eq] using this) (by simpa using hst) (by simpa using hf) n (List.range n) (Array.replicate l.toArray.size false) a w.drew (by simp) List.nodup_range
    (fun i => by
      rw [List.mem_range]
      constructor
      · intro h
        have : i < l.length := by have : n ≤ l.length := by simpa using hn
                                  omega
        exact ⟨h, by simp [this]⟩
      · exact fun h => h.1)
    ⟨by simp, fun j oj _ hl => (by rw [getD_replicate_false] at hl; cases hl), fun t _ ht => getD_in (by simpa using ht) (getD_replicate_false _ _)⟩
    ⟨by rw [List.map_congr_left (g := fun _ => false) (fun i _ => getD_replicate_false _ _)]; exact hC, rfl, rfl, fun _ _ => rfl, fun t ht => tbl_out a t _ _ rfl (vals LV) (fun hmem => by
      have hd : ((l.toArray.toList.take n).filterMap (·.dst)) = (vals LV).map Prod.fst := by
        simp only [gOkB, Bool.and_eq_true, decide_eq_true_eq] at hB
        exact hB.1.1.1.2
      rw [← hd] at hmem
      obtain ⟨o, ho, hdo⟩ := List.mem_filterMap.1 hmem
      obtain ⟨i, hi⟩ := List.mem_iff_getElem?.1 ho
      have hin : i < n := by
        rcases Nat.lt_or_ge i n with h | h
        · exact h
        · rw [List.getElem?_eq_none (by simp; omega)] at hi; cases hi
      rw [List.getElem?_take_of_lt hin] at hi
      have hil : i < l.length := by
        rcases Nat.lt_or_ge i l.length with h | h
        · exact h
        · rw [List.getElem?_eq_none h] at hi; cases hi
      exact ht i o hin (by simpa using hi) (by simp [hil]) hdo)⟩
  rwa [show n + (l.toArray.size - n) = l.toArray.size by omega] at this
end
end Go.Proofs.Yteocibahclpegaa

/- Likewise, where a table of relations stands through the stores. -/
set_option linter.unusedVariables false
set_option linter.unusedSimpArgs false
set_option maxRecDepth 8000
namespace Go.Proofs.Yteocibahclpegaa
open Go.RowKit Plain

section
variable {P : Program} {ops : Array Oper} {n : Nat} {a : Act} {T : List (Nat × SlotIs)} {C : List Bool → World → Prop} {G : World → World → Prop} {Q : Exit → Act → World → Prop} {ss : List Nat}

end
end Go.Proofs.Yteocibahclpegaa

/- Contracts: wide.Shr. -/
set_option linter.unusedVariables false
set_option linter.unusedSimpArgs false
set_option maxRecDepth 8000
namespace Go.Proofs.Yteocibahclpegaa
open Go.RowKit Plain

structure ShrSt (B : Nat) (w : World) (fa fr : Nat → Nat) (W : World) : Prop where
  la : LiesF W B fa
  lr : LiesF W (B + 1) fr
  fr : ∀ i, W.frozen? ⟨B + 1, i, none⟩ = false
  bel : Below B w W
theorem ShrSt.below {B : Nat} {w : World} {fa fr : Nat → Nat} {W W' : World} (h : ShrSt B w fa fr W) (hb : Below W.heap.size W W') : ShrSt B w fa fr W' :=
  ⟨h.la.below hb, h.lr.below hb, fun i => (hb.frozen (p := ⟨B + 1, i, none⟩) h.lr.2).trans (h.fr i), h.bel.trans (hb.mono (Nat.le_of_lt h.la.2))⟩

theorem lies_other {W : World} {b B : Nat} {f : Nat → Nat} {x0 x1 x2 x3 x4 x5 x6 x7 : Value} (h : LiesF W b f) (hne : B < b) : LiesF ((((((((W.setCell ⟨B, 0, none⟩ x0).setCell ⟨B, 1, none⟩ x1).setCell ⟨B, 2, none⟩ x2).setCell ⟨B, 3, none⟩ x3).setCell ⟨B, 4, none⟩ x4).setCell ⟨B, 5, none⟩ x5).setCell ⟨B, 6, none⟩ x6).setCell ⟨B, 7, none⟩ x7) b f := by
  refine ⟨fun i hi => ?_, by simpa using h.2⟩
  have := h.1 i hi
  have hb : b ≠ B := by omega
  simp [go_sem, this, hb]
theorem ShrSt.set8 {B : Nat} {w : World} {fa fr fq : Nat → Nat} {W : World} (h : ShrSt B w fa fr W) : ShrSt B w fa fq ((((((((W.setCell ⟨B + 1, 0, none⟩ (.int .u64 (fq 0 : Nat))).setCell ⟨B + 1, 1, none⟩ (.int .u64 (fq 1 : Nat))).setCell ⟨B + 1, 2, none⟩ (.int .u64 (fq 2 : Nat))).setCell ⟨B + 1, 3, none⟩ (.int .u64 (fq 3 : Nat))).setCell ⟨B + 1, 4, none⟩ (.int .u64 (fq 4 : Nat))).setCell ⟨B + 1, 5, none⟩ (.int .u64 (fq 5 : Nat))).setCell ⟨B + 1, 6, none⟩ (.int .u64 (fq 6 : Nat))).setCell ⟨B + 1, 7, none⟩ (.int .u64 (fq 7 : Nat))) := by
  have hs8 := below_set8 (Below.refl (B + 1) W) (B + 1) (Nat.le_refl _) (.int .u64 (fq 0 : Nat)) (.int .u64 (fq 1 : Nat)) (.int .u64 (fq 2 : Nat)) (.int .u64 (fq 3 : Nat)) (.int .u64 (fq 4 : Nat)) (.int .u64 (fq 5 : Nat)) (.int .u64 (fq 6 : Nat)) (.int .u64 (fq 7 : Nat))
  exact ⟨lies_box h.la hs8 (by omega), set8_same W (B + 1) fq fr h.lr, fun i => by simpa [go_sem] using h.fr i, h.bel.trans (hs8.mono (by omega))⟩

set_option maxHeartbeats 4000000 in
theorem wideShr_walk (fa fq fu : Nat → Nat) (n r : Int) (t : Bool) (w : World)
    (HR : Hid (∀ w, Calls Try.prog 98 #[.int .i64 n] w fun e w' => e = .returned (.int .i64 r) ∧ w' = w))
    (hneg : IntKind.i64.wrap (-r) = -r)
    (HM : Hid (∀ w, Calls Try.prog 97 #[.agg #[.int .u64 (fa 0 : Nat), .int .u64 (fa 1 : Nat), .int .u64 (fa 2 : Nat), .int .u64 (fa 3 : Nat), .int .u64 (fa 4 : Nat), .int .u64 (fa 5 : Nat), .int .u64 (fa 6 : Nat), .int .u64 (fa 7 : Nat)], .int .i64 (-r), .int .u64 0] w fun e w' => e = .returned (.agg #[.int .u64 (fq 0 : Nat), .int .u64 (fq 1 : Nat), .int .u64 (fq 2 : Nat), .int .u64 (fq 3 : Nat), .int .u64 (fq 4 : Nat), .int .u64 (fq 5 : Nat), .int .u64 (fq 6 : Nat), .int .u64 (fq 7 : Nat)]) ∧ Below w.heap.size w w'))
    (HS : Hid (∀ w, Calls Try.prog 78 #[.agg #[.int .u64 (fq 0 : Nat), .int .u64 (fq 1 : Nat), .int .u64 (fq 2 : Nat), .int .u64 (fq 3 : Nat), .int .u64 (fq 4 : Nat), .int .u64 (fq 5 : Nat), .int .u64 (fq 6 : Nat), .int .u64 (fq 7 : Nat)], .int .i64 n] w fun e w' => e = .returned (.agg #[.int .u64 (fu 0 : Nat), .int .u64 (fu 1 : Nat), .int .u64 (fu 2 : Nat), .int .u64 (fu 3 : Nat), .int .u64 (fu 4 : Nat), .int .u64 (fu 5 : Nat), .int .u64 (fu 6 : Nat), .int .u64 (fu 7 : Nat)]) ∧ Below w.heap.size w w'))
    (heq : ∀ w, (Op.equalIn 10000 32 (.agg #[.int .u64 (fu 0 : Nat), .int .u64 (fu 1 : Nat), .int .u64 (fu 2 : Nat), .int .u64 (fu 3 : Nat), .int .u64 (fu 4 : Nat), .int .u64 (fu 5 : Nat), .int .u64 (fu 6 : Nat), .int .u64 (fu 7 : Nat)]) (.agg #[.int .u64 (fa 0 : Nat), .int .u64 (fa 1 : Nat), .int .u64 (fa 2 : Nat), .int .u64 (fa 3 : Nat), .int .u64 (fa 4 : Nat), .int .u64 (fa 5 : Nat), .int .u64 (fa 6 : Nat), .int .u64 (fa 7 : Nat)])).run Try.prog w = .ok t w) :
    Calls Try.prog 75 #[.agg #[.int .u64 (fa 0 : Nat), .int .u64 (fa 1 : Nat), .int .u64 (fa 2 : Nat), .int .u64 (fa 3 : Nat), .int .u64 (fa 4 : Nat), .int .u64 (fa 5 : Nat), .int .u64 (fa 6 : Nat), .int .u64 (fa 7 : Nat)], .int .i64 n] w fun e w' => e = .returned (.tuple #[.agg #[.int .u64 (fq 0 : Nat), .int .u64 (fq 1 : Nat), .int .u64 (fq 2 : Nat), .int .u64 (fq 3 : Nat), .int .u64 (fq 4 : Nat), .int .u64 (fq 5 : Nat), .int .u64 (fq 6 : Nat), .int .u64 (fq 7 : Nat)], .bool (!t)]) ∧ Below w.heap.size w w' := by
  have HST : Hid (ShrSt w.heap.size w fa (fun _ => 0) ((w.alloc (.cells #[.int .u64 (fa 0 : Nat), .int .u64 (fa 1 : Nat), .int .u64 (fa 2 : Nat), .int .u64 (fa 3 : Nat), .int .u64 (fa 4 : Nat), .int .u64 (fa 5 : Nat), .int .u64 (fa 6 : Nat), .int .u64 (fa 7 : Nat)] 32)).alloc (.cells #[.int .u64 0, .int .u64 0, .int .u64 0, .int .u64 0, .int .u64 0, .int .u64 0, .int .u64 0, .int .u64 0] 32))) := by
    have hlz := liesF_new (w.alloc (.cells #[.int .u64 (fa 0 : Nat), .int .u64 (fa 1 : Nat), .int .u64 (fa 2 : Nat), .int .u64 (fa 3 : Nat), .int .u64 (fa 4 : Nat), .int .u64 (fa 5 : Nat), .int .u64 (fa 6 : Nat), .int .u64 (fa 7 : Nat)] 32)) (fun _ => 0) 32
    rw [World.size_alloc] at hlz
    exact ⟨(liesF_new w fa 32).alloc _, hlz, fun i => by simp [go_sem], below_trans (below_allocs w _) (below_allocs _ _)⟩
  go_enter Try.func75, Try.ntmps75
  go_upto_region 1 with fail
  refine wp_gen (fun W => ShrSt w.heap.size w fa (fun _ => 0) W ∧ w.heap.size + 2 ≤ W.heap.size) ⟨HST.out, by simp⟩ ?_
  rintro W1 h1
  refine wp_region_grow 6 [(7, .val (.agg #[.int .u64 (fa 0 : Nat), .int .u64 (fa 1 : Nat), .int .u64 (fa 2 : Nat), .int .u64 (fa 3 : Nat), .int .u64 (fa 4 : Nat), .int .u64 (fa 5 : Nat), .int .u64 (fa 6 : Nat), .int .u64 (fa 7 : Nat)])), (8, .val (.int .i64 n)), (9, .val (.int .i64 r)), (10, .val (.int .i64 (-r))), (11, .val (.agg #[.int .u64 (fq 0 : Nat), .int .u64 (fq 1 : Nat), .int .u64 (fq 2 : Nat), .int .u64 (fq 3 : Nat), .int .u64 (fq 4 : Nat), .int .u64 (fq 5 : Nat), .int .u64 (fq 6 : Nat), .int .u64 (fq 7 : Nat)])), (6, .box (w.heap.size + 2) (fun _ => 0))]
    (fun W => ShrSt w.heap.size w fa (fun _ => 0) W ∧ w.heap.size + 2 ≤ W.heap.size) mixedOk (by kernel_rfl) (by kernel_rfl) (⟨h1.1.below (Below.refl _ _).drew, h1.2⟩) (fun W W' h hb => ⟨h.1.below hb, Nat.le_trans h.2 hb.size⟩) ?_ ?_
  · refine gSt (gStep_run rfl ?_) ?_
    · intro ρ W hC hc hf hL
      have e2 : ρ (.tmp 2) = .pointer (some ⟨w.heap.size, 0, none⟩) := hL 2 (by decide +kernel)
      have hl := hC.1.la.1
      simp [go_sem, hc, hf, e2, hl]
      exact ⟨Below.refl _ _, rfl⟩
    refine gSt (gStep_run rfl (gRun_move 1 8 (.inl rfl) rfl (by decide +kernel) (fun v w h => h))) ?_
    refine gSt (gStep_run rfl ?_) ?_
    · intro ρ W hC hc hf hL
      have e8 : ρ (.tmp 8) = .int .i64 n := hL 8 (by decide +kernel)
      simp [go_sem, hc, hf, e8]
      refine (HR.out _).mono ?_
      rintro e w' ⟨rfl, hb⟩
      exact ⟨_, rfl, by first | exact hb | (subst hb; exact Below.refl _ _), rfl⟩
    refine gSt (gStep_run rfl ?_) ?_
    · intro ρ W hC hc hf hL
      have e9 : ρ (.tmp 9) = .int .i64 r := hL 9 (by decide +kernel)
      simp [go_sem, hc, hf, e9, hneg]
      exact ⟨Below.refl _ _, rfl⟩
    refine gSt (gStep_run rfl ?_) ?_
    · intro ρ W hC hc hf hL
      have e7 : ρ (.tmp 7) = .agg #[.int .u64 (fa 0 : Nat), .int .u64 (fa 1 : Nat), .int .u64 (fa 2 : Nat), .int .u64 (fa 3 : Nat), .int .u64 (fa 4 : Nat), .int .u64 (fa 5 : Nat), .int .u64 (fa 6 : Nat), .int .u64 (fa 7 : Nat)] := hL 7 (by decide +kernel)
      have e10 : ρ (.tmp 10) = .int .i64 (-r) := hL 10 (by decide +kernel)
      simp [go_sem, hc, hf, e7, e10]
      refine (HM.out _).mono ?_
      rintro e w' ⟨rfl, hb⟩
      exact ⟨_, rfl, by first | exact hb | (subst hb; exact Below.refl _ _), rfl⟩
    refine gSt (gStep_run rfl ?_) ?_
    · intro ρ W hC hc hf hL
      simp [go_sem, hc, hf]
      exact ⟨below_allocs _ _, _, rfl, hC.2, liesF_new _ (fun _ => 0) _, fun i => by simp [go_sem]⟩
    exact gSt0
  · intro W hC
    refine gFi 7 rfl ?_
    rintro _ rfl
    refine gFi 8 rfl ?_
    rintro _ rfl
    refine gFi 9 rfl ?_
    rintro _ rfl
    refine gFi 10 rfl ?_
    rintro _ rfl
    refine gFi 11 rfl ?_
    rintro _ rfl
    refine gFi 6 rfl ?_
    rintro _ ⟨p6, rfl, q6, l6, z6⟩
    refine gFi0 ?_
    simp only [List.drop_succ_cons, List.drop_zero]
    have hz := l6.1
    have hzl := l6.2
    have HC := hide hC
    have HL := hide l6
    clear hC h1 HST l6
    go_upto_region 2 with fail
    refine wp_gen (fun W => ShrSt w.heap.size w fa (fun _ => 0) W ∧ LiesF W p6 fq) ⟨?_, set8_same _ _ fq (fun _ => 0) HL.out⟩ ?_
    · have hs8 := below_set8 (Below.refl (w.heap.size + 2) W) p6 q6 (.int .u64 (fq 0 : Nat)) (.int .u64 (fq 1 : Nat)) (.int .u64 (fq 2 : Nat)) (.int .u64 (fq 3 : Nat)) (.int .u64 (fq 4 : Nat)) (.int .u64 (fq 5 : Nat)) (.int .u64 (fq 6 : Nat)) (.int .u64 (fq 7 : Nat))
      exact ⟨lies_box HC.out.1.la hs8 (by omega), lies_box HC.out.1.lr hs8 (by omega), fun i => (hs8.frozen (p := ⟨w.heap.size + 1, i, none⟩) (show w.heap.size + 1 < w.heap.size + 2 by omega)).trans (HC.out.1.fr i), HC.out.1.bel.trans (hs8.mono (by omega))⟩
    rintro W2 h2
    clear HC HL hz hzl z6
    have hp6 : w.heap.size + 1 < p6 := by omega
    refine wp_region_store 7 [6] [(12, .agg #[.int .u64 (fq 0 : Nat), .int .u64 (fq 1 : Nat), .int .u64 (fq 2 : Nat), .int .u64 (fq 3 : Nat), .int .u64 (fq 4 : Nat), .int .u64 (fq 5 : Nat), .int .u64 (fq 6 : Nat), .int .u64 (fq 7 : Nat)]), (13, .agg #[.int .u64 (fq 0 : Nat), .int .u64 (fq 1 : Nat), .int .u64 (fq 2 : Nat), .int .u64 (fq 3 : Nat), .int .u64 (fq 4 : Nat), .int .u64 (fq 5 : Nat), .int .u64 (fq 6 : Nat), .int .u64 (fq 7 : Nat)]), (14, .int .i64 n), (15, .agg #[.int .u64 (fu 0 : Nat), .int .u64 (fu 1 : Nat), .int .u64 (fu 2 : Nat), .int .u64 (fu 3 : Nat), .int .u64 (fu 4 : Nat), .int .u64 (fu 5 : Nat), .int .u64 (fu 6 : Nat), .int .u64 (fu 7 : Nat)]), (16, .agg #[.int .u64 (fa 0 : Nat), .int .u64 (fa 1 : Nat), .int .u64 (fa 2 : Nat), .int .u64 (fa 3 : Nat), .int .u64 (fa 4 : Nat), .int .u64 (fa 5 : Nat), .int .u64 (fa 6 : Nat), .int .u64 (fa 7 : Nat)]), (17, .bool (!t))]
      (fun bs W => ShrSt w.heap.size w fa (bif bs.headD false then fq else fun _ => 0) W ∧ LiesF W p6 fq) mixedOk (by kernel_rfl) (by kernel_rfl) (by kernel_rfl) (⟨h2.1.below (Below.refl _ _).drew, h2.2⟩) (fun bs W W' h hb => ⟨h.1.below hb, h.2.below hb⟩) ?_ ?_
    · refine sSt rfl (fun bs => gStep_run rfl ?_) ?_
      · intro ρ W hC hc hf hL
        have e6 : ρ (.tmp 6) = .pointer (some ⟨p6, 0, none⟩) := hL 6 (by decide +kernel)
        have hl := hC.2.1
        simp [go_sem, hc, hf, e6, hl]
        exact ⟨Below.refl _ _, rfl⟩
      refine sSt rfl (fun bs => gStep_run rfl ?_) ?_
      · intro ρ W hC hc hf hL
        have e6 : ρ (.tmp 6) = .pointer (some ⟨p6, 0, none⟩) := hL 6 (by decide +kernel)
        have hl := hC.2.1
        simp [go_sem, hc, hf, e6, hl]
        exact ⟨Below.refl _ _, rfl⟩
      refine sSt rfl (fun bs => gStep_run rfl (gRun_move 1 14 (.inl rfl) rfl (by decide +kernel) (fun v w h => h))) ?_
      refine sSt rfl (fun bs => gStep_run rfl ?_) ?_
      · intro ρ W hC hc hf hL
        have e13 : ρ (.tmp 13) = .agg #[.int .u64 (fq 0 : Nat), .int .u64 (fq 1 : Nat), .int .u64 (fq 2 : Nat), .int .u64 (fq 3 : Nat), .int .u64 (fq 4 : Nat), .int .u64 (fq 5 : Nat), .int .u64 (fq 6 : Nat), .int .u64 (fq 7 : Nat)] := hL 13 (by decide +kernel)
        have e14 : ρ (.tmp 14) = .int .i64 n := hL 14 (by decide +kernel)
        simp [go_sem, hc, hf, e13, e14]
        refine (HS.out _).mono ?_
        rintro e w' ⟨rfl, hb⟩
        exact ⟨_, rfl, by first | exact hb | (subst hb; exact Below.refl _ _), rfl⟩
      refine sSt rfl (fun bs => gStep_run rfl ?_) ?_
      · intro ρ W hC hc hf hL
        have e2 : ρ (.tmp 2) = .pointer (some ⟨w.heap.size, 0, none⟩) := hL 2 (by decide +kernel)
        have hl := hC.1.la.1
        simp [go_sem, hc, hf, e2, hl]
        exact ⟨Below.refl _ _, rfl⟩
      refine sSt rfl (fun bs => gStep_run rfl ?_) ?_
      · intro ρ W hC hc hf hL
        have e15 : ρ (.tmp 15) = .agg #[.int .u64 (fu 0 : Nat), .int .u64 (fu 1 : Nat), .int .u64 (fu 2 : Nat), .int .u64 (fu 3 : Nat), .int .u64 (fu 4 : Nat), .int .u64 (fu 5 : Nat), .int .u64 (fu 6 : Nat), .int .u64 (fu 7 : Nat)] := hL 15 (by decide +kernel)
        have e16 : ρ (.tmp 16) = .agg #[.int .u64 (fa 0 : Nat), .int .u64 (fa 1 : Nat), .int .u64 (fa 2 : Nat), .int .u64 (fa 3 : Nat), .int .u64 (fa 4 : Nat), .int .u64 (fa 5 : Nat), .int .u64 (fa 6 : Nat), .int .u64 (fa 7 : Nat)] := hL 16 (by decide +kernel)
        simp [go_sem, hc, hf, e15, e16, heq]
        exact ⟨Below.refl _ _, rfl⟩
      refine sStS rfl ⟨rfl, rfl, ?_⟩ ?_
      · intro φ ρ W hφ hC hc hL
        have e4 : ρ (.tmp 4) = .pointer (some ⟨w.heap.size + 1, 0, none⟩) := hL 4 (by decide +kernel)
        have e12 : ρ (.tmp 12) = .agg #[.int .u64 (fq 0 : Nat), .int .u64 (fq 1 : Nat), .int .u64 (fq 2 : Nat), .int .u64 (fq 3 : Nat), .int .u64 (fq 4 : Nat), .int .u64 (fq 5 : Nat), .int .u64 (fq 6 : Nat), .int .u64 (fq 7 : Nat)] := hL 12 (by decide +kernel)
        simp only [List.map_cons, List.map_nil, List.headD_cons, hφ, cond_false] at hC
        have hz := hC.1.lr.1
        have hzl := hC.1.lr.2
        have hzf := hC.1.fr
        simp [go_sem, hc, e4, e12, hz, hzf, hzl]
        exact ⟨hC.1.set8, lies_other hC.2 (by omega)⟩
      exact sSt0
    · intro W hC
      refine gFi 12 rfl ?_
      rintro _ rfl
      refine gFi 13 rfl ?_
      rintro _ rfl
      refine gFi 14 rfl ?_
      rintro _ rfl
      refine gFi 15 rfl ?_
      rintro _ rfl
      refine gFi 16 rfl ?_
      rintro _ rfl
      refine gFi 17 rfl ?_
      rintro _ rfl
      refine gFiN rfl ?_
      refine gFi0 ?_
      simp only [List.drop_succ_cons, List.drop_zero]
      have hr := hC.1.lr.1
      have HB := hide hC.1.bel
      clear hC
      go_wp2
      exact bodyPost_ret (v := .tuple #[.agg #[.int .u64 (fq 0 : Nat), .int .u64 (fq 1 : Nat), .int .u64 (fq 2 : Nat), .int .u64 (fq 3 : Nat), .int .u64 (fq 4 : Nat), .int .u64 (fq 5 : Nat), .int .u64 (fq 6 : Nat), .int .u64 (fq 7 : Nat)], .bool (!t)]) (by simp [results, Try.results75, go_sem, hr]) rfl ⟨rfl, HB.out⟩
    

end Go.Proofs.Yteocibahclpegaa

/- Contracts: wide.Shr, as numbers; radicandref02.Sar. -/
set_option linter.unusedVariables false
set_option linter.unusedSimpArgs false
set_option maxRecDepth 8000
namespace Go.Proofs.Yteocibahclpegaa
open Go.RowKit Plain

theorem sh_down (a k : Nat) : sh a (-(k : Int)) = a / 2 ^ k := by
  unfold sh
  by_cases h : k = 0
  · subst h; rw [if_neg (by omega)]; simp
  · rw [if_pos (by omega), show (- -(k : Int)).toNat = k by omega]
theorem sh_up (a k : Nat) : sh a (k : Int) = a * 2 ^ k := by
  unfold sh
  rw [if_neg (by omega), Int.toNat_natCast]
theorem wide_eqb {a b : Nat} (ha : a < QQ) (hb : b < QQ) (w : World) :
    (Op.equalIn 10000 32 (.agg #[.int .u64 (dgl (a) 0 : Nat), .int .u64 (dgl (a) 1 : Nat), .int .u64 (dgl (a) 2 : Nat), .int .u64 (dgl (a) 3 : Nat), .int .u64 (dgl (a) 4 : Nat), .int .u64 (dgl (a) 5 : Nat), .int .u64 (dgl (a) 6 : Nat), .int .u64 (dgl (a) 7 : Nat)]) (.agg #[.int .u64 (dgl (b) 0 : Nat), .int .u64 (dgl (b) 1 : Nat), .int .u64 (dgl (b) 2 : Nat), .int .u64 (dgl (b) 3 : Nat), .int .u64 (dgl (b) 4 : Nat), .int .u64 (dgl (b) 5 : Nat), .int .u64 (dgl (b) 6 : Nat), .int .u64 (dgl (b) 7 : Nat)])).run Try.prog w = .ok (decide (a = b)) w := by
  by_cases h : a = b
  · subst h; rw [wide_same, decide_eq_true rfl]
  · rw [wide_diff ha hb h, decide_eq_false h]

theorem wideShr_any (a k : Nat) (n : Int) (hk : roomI n = (k : Int)) (ha : a < QQ) (w : World) :
    Calls Try.prog 75 #[.agg #[.int .u64 (dgl (a) 0 : Nat), .int .u64 (dgl (a) 1 : Nat), .int .u64 (dgl (a) 2 : Nat), .int .u64 (dgl (a) 3 : Nat), .int .u64 (dgl (a) 4 : Nat), .int .u64 (dgl (a) 5 : Nat), .int .u64 (dgl (a) 6 : Nat), .int .u64 (dgl (a) 7 : Nat)], .int .i64 n] w fun e w' => e = .returned (.tuple #[.agg #[.int .u64 (dgl (a / 2 ^ k) 0 : Nat), .int .u64 (dgl (a / 2 ^ k) 1 : Nat), .int .u64 (dgl (a / 2 ^ k) 2 : Nat), .int .u64 (dgl (a / 2 ^ k) 3 : Nat), .int .u64 (dgl (a / 2 ^ k) 4 : Nat), .int .u64 (dgl (a / 2 ^ k) 5 : Nat), .int .u64 (dgl (a / 2 ^ k) 6 : Nat), .int .u64 (dgl (a / 2 ^ k) 7 : Nat)], .bool (!decide (a / 2 ^ k * 2 ^ k = a))]) ∧ Below w.heap.size w w' := by
  have hbd := roomI_bd n
  have hq : a / 2 ^ k < QQ := Nat.lt_of_le_of_lt (Nat.div_le_self _ _) ha
  have hu : a / 2 ^ k * 2 ^ k < QQ := Nat.lt_of_le_of_lt (Nat.div_mul_le_self _ _) ha
  have hM := fun w => moved_any a 0 a (-(roomI n)) w (ext0 ha) (by omega) (by omega)
  have hS := fun w => wideShl_any (a / 2 ^ k) n hq w
  rw [hk, sh_down] at hM
  rw [hk, sh_up] at hS
  refine wideShr_walk (dgl a) (dgl (a / 2 ^ k)) (dgl (a / 2 ^ k * 2 ^ k)) n (k : Int) (decide (a / 2 ^ k * 2 ^ k = a)) w (fun w => by rw [← hk]; exact room_any n w) ?_ hM hS (fun w => wide_eqb hu ha w)
  rw [IntKind.wrap_i64]; omega

end Go.Proofs.Yteocibahclpegaa

/- radicandref02.Sar, as numbers: it tells what wide.Sar does. -/
set_option linter.unusedVariables false
set_option linter.unusedSimpArgs false
set_option maxRecDepth 8000
namespace Go.Proofs.Yteocibahclpegaa
open Go.RowKit Plain

end Go.Proofs.Yteocibahclpegaa

/- Sums, differences and signs of wides, as numbers. -/
set_option linter.unusedVariables false
set_option linter.unusedSimpArgs false
set_option maxRecDepth 8000
namespace Go.Proofs.Yteocibahclpegaa
open Go.RowKit Plain

theorem bitLen_lt (a : Nat) : a < 2 ^ Go.bitLen a := by
  unfold Go.bitLen
  split
  · rename_i h; rw [h]; decide
  · exact Nat.lt_log2_self
theorem bitLen_le (a q : Nat) (h : a < 2 ^ q) : Go.bitLen a ≤ q := by
  unfold Go.bitLen
  split
  · omega
  · rename_i h0
    have := (Nat.log2_lt h0).2 h
    omega

end Go.Proofs.Yteocibahclpegaa

/- The sum of limbs' products, as numbers. -/
set_option linter.unusedVariables false
set_option linter.unusedSimpArgs false
set_option maxRecDepth 8000
namespace Go.Proofs.Yteocibahclpegaa
open Go.RowKit Plain

/-- A limb. -/
def LW : Nat := 18446744073709551616
theorem lw_pos : 0 < LW := by decide
theorem dgl_lw (n k : Nat) : dgl n k = n / LW ^ k % LW := rfl

end Go.Proofs.Yteocibahclpegaa

/- Contracts: prod.summed. -/
set_option linter.unusedVariables false
set_option linter.unusedSimpArgs false
set_option maxRecDepth 8000
namespace Go.Proofs.Yteocibahclpegaa
open Go.RowKit Plain

end Go.Proofs.Yteocibahclpegaa

/- Contracts: prod.halves, prod.all. -/
set_option linter.unusedVariables false
set_option linter.unusedSimpArgs false
set_option maxRecDepth 8000
namespace Go.Proofs.Yteocibahclpegaa
open Go.RowKit Plain

theorem lies_ne {W : World} {b B : Nat} {f : Nat → Nat} {x0 x1 x2 x3 x4 x5 x6 x7 : Value} (h : LiesF W b f) (hne : b ≠ B) : LiesF ((((((((W.setCell ⟨B, 0, none⟩ x0).setCell ⟨B, 1, none⟩ x1).setCell ⟨B, 2, none⟩ x2).setCell ⟨B, 3, none⟩ x3).setCell ⟨B, 4, none⟩ x4).setCell ⟨B, 5, none⟩ x5).setCell ⟨B, 6, none⟩ x6).setCell ⟨B, 7, none⟩ x7) b f := by
  refine ⟨fun i hi => ?_, by simpa using h.2⟩
  have := h.1 i hi
  simp [go_sem, this, hne]
end Go.Proofs.Yteocibahclpegaa

/- Contracts: prod.Mul, Square, Small. -/
set_option linter.unusedVariables false
set_option linter.unusedSimpArgs false
set_option maxRecDepth 8000
namespace Go.Proofs.Yteocibahclpegaa
open Go.RowKit Plain

end Go.Proofs.Yteocibahclpegaa

/- Contracts: prod.Square, Small, Sum. -/
set_option linter.unusedVariables false
set_option linter.unusedSimpArgs false
set_option maxRecDepth 8000
namespace Go.Proofs.Yteocibahclpegaa
open Go.RowKit Plain

end Go.Proofs.Yteocibahclpegaa

/- Picks whose constant stands first; slices of wides across stores. -/
set_option linter.unusedVariables false
set_option linter.unusedSimpArgs false
set_option maxRecDepth 8000
namespace Go.Proofs.Yteocibahclpegaa
open Go.RowKit Plain

section
variable {ops : Array Oper} {a : Act} {T : List (Nat × SlotIs)} {C : World → Prop} {o : Oper}
end

end Go.Proofs.Yteocibahclpegaa

/- What is lost by a shift that is greater than all. -/
set_option linter.unusedVariables false
set_option linter.unusedSimpArgs false
set_option maxRecDepth 8000
namespace Go.Proofs.Yteocibahclpegaa
open Go.RowKit Plain

end Go.Proofs.Yteocibahclpegaa

