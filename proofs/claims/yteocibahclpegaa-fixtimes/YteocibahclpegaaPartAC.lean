/- Contracts and laws: Grow. -/
import Derived.StillTail
import Derived.Below
/- A region that draws its order, whose operations read what lay there before and whose calls only make new memory: whatever order is drawn, each slot holds what a table says of it. -/
set_option linter.unusedVariables false
set_option linter.unusedSimpArgs false
set_option maxRecDepth 8000
namespace Go.Proofs.Yteocibahclpegaa
open Go.RowKit

/-- What a slot holds: a relation that new memory doesn't break. -/
structure SlotIs where
  R : Value → World → Prop
  mono : ∀ v w w', Below w.heap.size w w' → R v w → R v w'
def SlotIs.val (x : Value) : SlotIs := ⟨fun v _ => v = x, fun _ _ _ _ h => h⟩

/-- What the table says of slot t; a slot that isn't in it is as in the frame a. -/
def tbl (a : Act) (t : Tmp) : List (Nat × SlotIs) → Value → World → Prop
  | [] => fun v _ => v = a.eval (.tmp t)
  | p :: T => bif Nat.beq p.1 t then p.2.R else tbl a t T

theorem tbl_mono (a : Act) (t : Tmp) (v : Value) (w w' : World) (hb : Below w.heap.size w w') : ∀ T, tbl a t T v w → tbl a t T v w'
  | [] => fun h => h
  | p :: T => by
    unfold tbl
    cases Nat.beq p.1 t
    · exact tbl_mono a t v w w' hb T
    · exact p.2.mono v w w' hb

theorem tbl_out (a : Act) (t : Tmp) (v : Value) (w : World) (hv : v = a.eval (.tmp t)) : ∀ T : List (Nat × SlotIs), t ∉ T.map Prod.fst → tbl a t T v w
  | [] => fun _ => hv
  | p :: T => by
    intro h
    simp only [List.map_cons, List.mem_cons, not_or] at h
    unfold tbl
    have : Nat.beq p.1 t = false := by
      cases hb : Nat.beq p.1 t
      · rfl
      · exact absurd (Nat.eq_of_beq_eq_true hb).symm h.1
    rw [this]
    exact tbl_out a t v w hv T h.2

def gUpon (P : Program) (K : Value → World → Prop) : Result Next → Prop
  | .ok (.value v) w' => K v w'
  | .ok .skip w' => K undef w'
  | .ok (.enter f args) w' => Calls P f args w' fun e w'' => ∃ v, e = .returned v ∧ K v w''
  | _ => False
def gOp (P : Program) (o : Oper) (A : Act) (w : World) (K : Value → World → Prop) : Prop := gUpon P K ((execOp A.eval o).run P w)

def gPost (a : Act) (T : List (Nat × SlotIs)) (o : Oper) (w : World) (v : Value) (w' : World) : Prop :=
  Below w.heap.size w w' ∧ match o.dst with | some d => tbl a d T v w' | none => True

def gStep (P : Program) (ops : Array Oper) (a : Act) (T : List (Nat × SlotIs)) (C : World → Prop) (o : Oper) : Prop :=
  ∀ A w, C w → (∀ t ∈ o.looksAt ops, tbl a t T (A.eval (.tmp t)) w) →
    if Region.wanted o (yielded ops A.tmps) then gOp P o A w (gPost a T o w) else gPost a T o w undef w

def gSteps (P : Program) (ops : Array Oper) (a : Act) (T : List (Nat × SlotIs)) (C : World → Prop) : List Oper → Prop
  | [] => True
  | o :: rest => gStep P ops a T C o ∧ gSteps P ops a T C rest

def gFin (a0 : Act) (T : List (Nat × SlotIs)) (R : Act → Prop) (w : World) : List Oper → Act → Prop
  | [], a => R a
  | o :: rest, a => match o.dst with
    | some d => ∀ v, tbl a0 d T v w → gFin a0 T R w rest (a.put (some d) v)
    | none => gFin a0 T R w rest a

/-- What is asked of the region's form: n operations in whatever order, behind them the rest in the order of the text. -/
def gOkB (ops : Array Oper) (n : Nat) (dsts : List Nat) : Bool :=
  decide (n ≤ ops.size) &&
  (List.range n).all (fun j => match ops[j]? with
    | some o => (o.looksAt ops).all (fun t => (List.range n).all fun i => match ops[i]? with
        | some oi => (match oi.dst with | some d => !Nat.beq d t || Region.waitsFor .any ops j i | none => true)
        | none => true) &&
      o.after.all (fun e => !Region.binds .any e || decide (e.on < j))
    | none => false) &&
  decide (((ops.toList.take n).filterMap (·.dst)) = dsts) && decide dsts.Nodup &&
  (decide (n = ops.size) || (decide (n < ops.size) && Region.sinkB .any ops n && Region.chainB .any ops n)) &&
  Region.seqB .any ops (ops.size - n) n (Array.replicate n true ++ Array.replicate (ops.size - n) false)

section
variable {P : Program} {ops : Array Oper} {n : Nat} {a : Act} {T : List (Nat × SlotIs)} {C : World → Prop} {Q : Exit → Act → World → Prop}

theorem gSt {n : Nat} {o : Oper} {l : List Oper} (h : gStep P ops a T C o) (h2 : gSteps P ops a T C (l.take n)) : gSteps P ops a T C ((o :: l).take (n + 1)) := ⟨h, h2⟩
theorem gFi {n : Nat} {o : Oper} {l : List Oper} {R : Act → Prop} {w : World} {a' : Act} (d : Tmp) (hd : o.dst = some d) (h : ∀ v, tbl a d T v w → gFin a T R w (l.take n) (a'.put (some d) v)) : gFin a T R w ((o :: l).take (n + 1)) a' := by
  rw [List.take_succ_cons]; unfold gFin; rw [hd]; exact h
theorem gFiN {n : Nat} {o : Oper} {l : List Oper} {R : Act → Prop} {w : World} {a' : Act} (hd : o.dst = none) (h : gFin a T R w (l.take n) a') : gFin a T R w ((o :: l).take (n + 1)) a' := by
  rw [List.take_succ_cons]; unfold gFin; rw [hd]; exact h
theorem gFi0 {l : List Oper} {R : Act → Prop} {w : World} {a' : Act} (h : R a') : gFin a T R w (l.take 0) a' := h
theorem gSt0 {l : List Oper} : gSteps P ops a T C (l.take 0) := trivial
theorem gSteps_get : ∀ (l : List Oper) (i : Nat) (o : Oper), l[i]? = some o → gSteps P ops a T C l → gStep P ops a T C o
  | [], i, o, h, _ => by simp at h
  | x :: l, 0, o, h, hs => by simp at h; subst h; exact hs.1
  | x :: l, i + 1, o, h, hs => gSteps_get l i o (by simpa using h) hs.2

structure GInv (ops : Array Oper) (n : Nat) (a : Act) (T : List (Nat × SlotIs)) (C : World → Prop) (listed : Array Bool) (A : Act) (w : World) : Prop where
  c : C w
  sz : A.tmps.size = a.tmps.size
  df : A.defers = a.defers
  kept : ∀ t, t ∉ T.map Prod.fst → A.tmps[t]? = a.tmps[t]?
  known : ∀ t, (∀ i oi, i < n → ops[i]? = some oi → listed.getD i true = false → oi.dst ≠ some t) → tbl a t T (A.eval (.tmp t)) w

theorem put_sz (A : Act) (d : Option Tmp) (v : Value) : (A.put d v).tmps.size = A.tmps.size := by cases d <;> simp [Act.put]
theorem put_df (A : Act) (d : Option Tmp) (v : Value) : (A.put d v).defers = A.defers := by cases d <;> rfl

theorem gInv_step {listed : Array Bool} {A : Act} {w w' : World} {i : Nat} {o : Oper} {v : Value} (hCs : ∀ w w', C w → Below w.heap.size w w' → C w')
    (hd : ((ops.toList.take n).filterMap (·.dst)) = T.map Prod.fst) (hi : ops[i]? = some o) (hin : i < n) (hins : ∀ d, o.dst = some d → d < a.tmps.size)
    (inv : GInv ops n a T C listed A w) (hp : gPost a T o w v w') : GInv ops n a T C (listed.setIfInBounds i true) (A.put o.dst v) w' := by
  obtain ⟨hb, hp⟩ := hp
  have hmem : ∀ d, o.dst = some d → d ∈ T.map Prod.fst := fun d h => by
    rw [← hd]
    refine List.mem_filterMap.2 ⟨o, ?_, h⟩
    rw [List.mem_iff_getElem?]
    exact ⟨i, by rw [List.getElem?_take_of_lt hin, Array.getElem?_toList]; exact hi⟩
  refine ⟨hCs _ _ inv.c hb, by rw [put_sz]; exact inv.sz, by rw [put_df]; exact inv.df, fun t ht => ?_, fun t ht => ?_⟩
  · rw [← inv.kept t ht]
    cases hdo : o.dst with
    | none => rfl
    | some d =>
      have : d ≠ t := fun e => ht (e ▸ hmem d hdo)
      simp [Act.put, Array.getElem?_setIfInBounds_ne this]
  · by_cases hdt : o.dst = some t
    · rw [hdt] at hp
      have e : (A.put o.dst v).eval (.tmp t) = v := by
        rw [hdt]
        have : t < A.tmps.size := by rw [inv.sz]; exact hins t hdt
        simp [Act.put, Act.eval, this]
      rw [e]; exact hp
    · have e : (A.put o.dst v).eval (.tmp t) = A.eval (.tmp t) := Act.eval_put (fun d h1 h2 => hdt (by rw [h1]; cases h2; rfl))
      rw [e]
      refine tbl_mono a t _ w w' hb T (inv.known t fun j oj hj hoj hl => ?_)
      by_cases hij : i = j
      · subst hij
        have : oj = o := Option.some.inj (hoj.symm.trans hi)
        subst this; exact hdt
      · exact ht j oj hj hoj (by rw [getD_set_ne true hij]; exact hl)

theorem wp_of_gOp {o : Oper} {A : Act} {w : World} {K : Value → World → Prop} {K' : Act → World → Prop} (h : ∀ v w', K v w' → K' (A.put o.dst v) w') (hh : gOp P o A w K) : o.wp P A w K' Q := by
  unfold gOp at hh
  unfold Oper.wp
  generalize (execOp A.eval o).run P w = r at *
  cases r with
  | ok x w' =>
    cases x <;> simp only [gUpon] at hh <;> simp only [Oper.upon]
    case enter f args => exact hh.mono fun e w'' ⟨v, he, hk⟩ => by subst he; exact h _ _ hk
    all_goals exact h _ _ hh
  | halt x w' => simp only [gUpon] at hh

theorem gFin_use {w : World} {R : Act → Prop} : ∀ (l : List Oper) (A a' : Act), A.tmps.size = a'.tmps.size → A.defers = a'.defers → (l.filterMap (·.dst)).Nodup →
    (∀ t, t ∉ l.filterMap (·.dst) → A.tmps[t]? = a'.tmps[t]?) → (∀ d ∈ l.filterMap (·.dst), tbl a d T (A.eval (.tmp d)) w) → gFin a T R w l a' → R A
  | [], A, a', hs, hd, _, hk, _, h => by
    have : A = a' := by
      cases A; cases a'
      simp only [Act.mk.injEq]
      exact ⟨Array.ext_getElem? (fun t => hk t (by simp)), hd⟩
    rw [this]; exact h
  | o :: l, A, a', hs, hd, hn, hk, ht, h => by
    cases hdo : o.dst with
    | none =>
      simp only [gFin, hdo] at h
      simp only [List.filterMap_cons, hdo] at hn hk ht
      exact gFin_use l A a' hs hd hn hk ht h
    | some d =>
      simp only [gFin, hdo] at h
      simp only [List.filterMap_cons, hdo, List.nodup_cons, List.mem_cons] at hn hk ht
      refine gFin_use l A (a'.put (some d) (A.eval (.tmp d))) (by rw [put_sz]; exact hs) (by rw [put_df]; exact hd) hn.2 (fun t h1 => ?_) (fun d' h1 => ht d' (.inr h1)) (h _ (ht d (.inl rfl)))
      by_cases e : d = t
      · subst e
        by_cases hlt : d < a'.tmps.size
        · have hlt' : d < A.tmps.size := by rw [hs]; exact hlt
          simp [Act.put, Act.eval, hlt, hlt']
        · rw [Array.getElem?_eq_none (by rw [hs]; exact Nat.le_of_not_lt hlt), Array.getElem?_eq_none (by rw [put_sz]; exact Nat.le_of_not_lt hlt)]
      · rw [hk t (by simp only [not_or]; exact ⟨fun x => e x.symm, h1⟩)]
        simp [Act.put, Array.getElem?_setIfInBounds_ne e]

theorem grow_any (hB : gOkB ops n (T.map Prod.fst) = true) (hCs : ∀ w w', C w → Below w.heap.size w w' → C w') (hsz : ∀ d ∈ T.map Prod.fst, d < a.tmps.size)
    (hst : gSteps P ops a T C (ops.toList.take n)) (hf : ∀ w', C w' → gFin a T (fun a' => wpList P ops Q (ops.toList.drop n) a' w') w' (ops.toList.take n) a) :
    ∀ (f : Nat) (L : List Nat) (listed : Array Bool) (A : Act) (w : World), L.length = f → L.Nodup → (∀ i, i ∈ L ↔ (i < n ∧ listed.getD i true = false)) →
      HeadInv .any ops n listed → GInv ops n a T C listed A w → wpAny P .any ops Q (f + (ops.size - n)) listed A w := by
  simp only [gOkB, Bool.and_eq_true, decide_eq_true_eq] at hB
  obtain ⟨⟨⟨⟨⟨hn, hlook⟩, hd⟩, hnd⟩, htail⟩, hseq⟩ := hB
  have hlk : ∀ j o, j < n → ops[j]? = some o → (∀ t ∈ o.looksAt ops, ∀ i oi, i < n → ops[i]? = some oi → oi.dst = some t → ∃ e ∈ o.after, Region.binds .any e = true ∧ e.on = i) ∧ (∀ e ∈ o.after, Region.binds .any e = true → e.on < j) := by
    intro j o hj ho
    have h1 := List.all_eq_true.1 hlook j (List.mem_range.2 hj)
    simp only [ho, Bool.and_eq_true] at h1
    constructor
    · intro t ht i oi hi hoi hdi
      have h2 := List.all_eq_true.1 (List.all_eq_true.1 h1.1 t ht) i (List.mem_range.2 hi)
      simp only [hoi, hdi, Bool.or_eq_true] at h2
      rcases h2 with h2 | h2
      · have : Nat.beq t t = true := Nat.beq_refl t
        rw [this] at h2; cases h2
      · obtain ⟨oj, hoj, e, he, hb, hon⟩ := Region.waitsFor_spec h2
        have : oj = o := Option.some.inj (hoj.symm.trans ho)
        subst this
        exact ⟨e, he, hb, hon⟩
    · intro e he hb
      have h2 := (Array.all_eq_true_iff_forall_mem.1 h1.2) e he
      simp only [hb, Bool.not_true, Bool.false_or, decide_eq_true_eq] at h2
      exact h2
  have hdst : ∀ i o, i < n → ops[i]? = some o → ∀ d, o.dst = some d → d ∈ T.map Prod.fst := fun i o hi ho d hdo => by
    rw [← hd]
    refine List.mem_filterMap.2 ⟨o, ?_, hdo⟩
    rw [List.mem_iff_getElem?]
    exact ⟨i, by rw [List.getElem?_take_of_lt hi, Array.getElem?_toList]; exact ho⟩
  intro f
  induction f with
  | zero =>
    intro L listed A w hl hnd' hL hinv inv
    have hall : ∀ i, i < n → listed.getD i true = true := fun i hi => by
      cases hc : listed.getD i true
      · have := (hL i).2 ⟨hi, hc⟩
        rw [List.length_eq_zero_iff.1 hl] at this; cases this
      · rfl
    have hlist : listed = Array.replicate n true ++ Array.replicate (ops.size - n) false := by
      apply Array.ext_getElem?
      intro i
      by_cases h1 : i < n
      · have h2 := hall i h1
        have h3 : i < listed.size := by rw [hinv.size]; omega
        simp [h3] at h2
        rw [Array.getElem?_append_left (by simpa using h1)]
        simp [h1, h3, h2]
      · by_cases h4 : i < ops.size
        · have h2 := hinv.tail i (by omega) h4
          have h3 : i < listed.size := by rw [hinv.size]; omega
          simp [h3] at h2
          rw [Array.getElem?_append_right (by simp; omega), Array.getElem?_eq_getElem h3, Array.getElem?_replicate, if_pos (by simp; omega), h2]
        · rw [Array.getElem?_eq_none (by rw [hinv.size]; omega), Array.getElem?_eq_none (by simp; omega)]
    rw [Nat.zero_add]
    have hQ := gFin_use (a := a) (T := T) (w := w) _ A a inv.sz inv.df (by rw [hd]; exact hnd) (fun t ht => inv.kept t (by rw [← hd]; exact ht)) (fun d hdm => inv.known d (fun i oi hi hoi hli => by rw [hall i hi] at hli; cases hli)) (hf w inv.c)
    have := wpAny_of_seq (md := .any) (Q' := Q) (ops.toList.drop n) n listed A w (fun j => by simp [List.getElem?_drop]) (by rw [hlist]; simpa using hseq) hQ
    simpa using this
  | succ f ih =>
    intro L listed A w hl hnd' hL hinv inv
    have hne : ∃ i, i < n ∧ listed.getD i true = false := by
      cases L with
      | nil => cases hl
      | cons i L => exact ⟨i, (hL i).1 (by simp)⟩
    have hready : Region.ready .any ops listed ≠ [] := by
      intro hr
      obtain ⟨i, hi, hli⟩ := hne
      have key : ∀ m, ∀ j, j < m → j < n → listed.getD j true = true := by
        intro m
        induction m with
        | zero => intro j hj; omega
        | succ m ihm =>
          intro j hj hjn
          rcases Nat.lt_or_ge j m with h | h
          · exact ihm j h hjn
          · cases hc : listed.getD j true
            · have hjs : j < ops.size := by omega
              have : j ∈ Region.ready .any ops listed := mem_ready.2 ⟨hc, ops[j], by simp [hjs], fun e he hb => by
                have h1 := (hlk j ops[j] hjn (by simp [hjs])).2 e he hb
                have h2 := ihm e.on (by omega) (by omega)
                have h3 : e.on < listed.size := by rw [hinv.size]; omega
                simp [h3] at h2 ⊢; exact h2⟩
              rw [hr] at this; cases this
            · rfl
      rw [key (i + 1) i (by omega) hi] at hli; cases hli
    rw [show f + 1 + (ops.size - n) = (f + (ops.size - n)) + 1 by omega]
    refine ⟨fun h => absurd h hready, fun i hi => ?_⟩
    have hin : i < n := by
      rcases Nat.lt_or_ge i n with h | h
      · exact h
      · simp only [Bool.or_eq_true, Bool.and_eq_true, decide_eq_true_eq] at htail
        rcases htail with ht | ⟨⟨h1, h2⟩, h3⟩
        · obtain ⟨_, o, ho, _⟩ := mem_ready.1 hi
          have := (Array.getElem?_eq_some_iff.1 ho).1
          omega
        · obtain ⟨k, hk, hlk'⟩ := hne
          exact absurd hi (tail_waits h2 h3 h1 hinv _ k rfl hk hlk' i h)
    obtain ⟨hun, o, ho, hafter⟩ := mem_ready.1 hi
    have hstep := gSteps_get _ i o (by rw [List.getElem?_take_of_lt hin, Array.getElem?_toList]; exact ho) hst A w inv.c (fun t ht => inv.known t (fun j oj hj hoj hlj hdj => by
      obtain ⟨e, he, hb, hon⟩ := (hlk i o hin ho).1 t ht j oj hj hoj hdj
      have h1 := hafter e he hb
      rw [hon, getD_both hlj] at h1; cases h1))
    have go : ∀ v w', gPost a T o w v w' → wpAny P .any ops Q (f + (ops.size - n)) (listed.setIfInBounds i true) (A.put o.dst v) w' := fun v w' hp => by
      refine ih (L.erase i) _ _ _ ?_ (hnd'.erase i) (fun j => ?_) (hinv.set hi hin) (gInv_step hCs hd ho hin (fun d h => hsz d (hdst i o hin ho d h)) inv hp)
      · rw [List.length_erase_of_mem ((hL i).2 ⟨hin, hun⟩), hl]; rfl
      · rw [hnd'.mem_erase_iff, hL j]
        constructor
        · rintro ⟨h1, h2, h3⟩
          exact ⟨h2, by rw [getD_set_ne true (fun e => h1 e.symm)]; exact h3⟩
        · rintro ⟨h2, h3⟩
          by_cases hij : i = j
          · subst hij
            have : i < listed.size := by rw [hinv.size]; omega
            simp [this] at h3
          · rw [getD_set_ne true hij] at h3
            exact ⟨fun e => hij e.symm, h2, h3⟩
    unfold wpOp
    simp only [ho]
    split
    · rename_i hw
      simp only [hw, if_true] at hstep
      exact .inl (wp_of_gOp go hstep)
    · rename_i hw
      simp only [hw] at hstep
      exact go _ _ hstep

theorem wp_region_grow {id : Nat} {w : World} {l : List Oper} (n : Nat) (T : List (Nat × SlotIs)) (C : World → Prop) (hm : P.follows .mixedOrders = true) (hB : gOkB l.toArray n (T.map Prod.fst) = true)
    (hsz : (T.map Prod.fst).all (fun d => Nat.blt d a.tmps.size) = true) (hC : C w.drew) (hCs : ∀ w w', C w → Below w.heap.size w w' → C w')
    (hst : gSteps P l.toArray a T C (l.take n)) (hf : ∀ w', C w' → gFin a T (fun a' => wpList P l.toArray Q (l.drop n) a' w') w' (l.take n) a) :
    (Code.region id l.toArray true).wp P Q a w := by
  refine wp_region_any hm ?_
  have hn : n ≤ l.toArray.size := by
    simp only [gOkB, Bool.and_eq_true, decide_eq_true_eq] at hB
    exact hB.1.1.1.1.1
  have := grow_any (P := P) (ops := l.toArray) (n := n) (a := a) (T := T) (C := C) (Q := Q) hB hCs (fun d hd => by have := List.all_eq_true.1 hsz d hd; simpa [Nat.blt_eq] using this) (by simpa using hst) (by simpa using hf) n (List.range n) (Array.replicate l.toArray.size false) a w.drew (by simp) List.nodup_range
    (fun i => by
      rw [List.mem_range]
      constructor
      · intro h
        have : i < l.length := by have : n ≤ l.length := by simpa using hn
                                  omega
        exact ⟨h, by simp [this]⟩
      · exact fun h => h.1)
    ⟨by simp, fun j oj _ hl => (by rw [getD_replicate_false] at hl; cases hl), fun t _ ht => getD_in (by simpa using ht) (getD_replicate_false _ _)⟩
    ⟨hC, rfl, rfl, fun _ _ => rfl, fun t ht => tbl_out a t _ _ rfl T (fun hmem => by
      have hd : ((l.toArray.toList.take n).filterMap (·.dst)) = T.map Prod.fst := by
        simp only [gOkB, Bool.and_eq_true, decide_eq_true_eq] at hB
        exact hB.1.1.1.2
      rw [← hd] at hmem
      obtain ⟨o, ho, hdo⟩ := List.mem_filterMap.1 hmem
      obtain ⟨i, hi⟩ := List.mem_iff_getElem?.1 ho
      have hin : i < n := by
        rcases Nat.lt_or_ge i n with h | h
        · exact h
        · rw [List.getElem?_eq_none (by simp; omega)] at hi; cases hi
      rw [List.getElem?_take_of_lt hin] at hi
      have hil : i < l.length := by
        rcases Nat.lt_or_ge i l.length with h | h
        · exact h
        · rw [List.getElem?_eq_none h] at hi; cases hi
      exact ht i o hin (by simpa using hi) (by simp [hil]) hdo)⟩
  rwa [show n + (l.toArray.size - n) = l.toArray.size by omega] at this
end
end Go.Proofs.Yteocibahclpegaa

