/- Contracts and laws: ProdF, ProdG, ProdJ, GrowK, GrowJ, RdxB, WideT. -/
import Derived.Test.YtmbbhagjfgjhgaaPartAM
import Derived.Deep.DeepCutAuto
import Derived.Test.YtmbbhagjfgjhgaaPartAB
import Derived.Test.YtmbbhagjfgjhgaaPartAH
/- Contracts: prod.High. -/
set_option linter.unusedVariables false
set_option linter.unusedSimpArgs false
set_option maxRecDepth 8000
namespace Go.Proofs.Ytmbbhagjfgjhgaa
open Go.RowKit Plain

end Go.Proofs.Ytmbbhagjfgjhgaa

/- Contracts: radicandref03.Mul; radicandlaw03.awake. -/
set_option linter.unusedVariables false
set_option linter.unusedSimpArgs false
set_option maxRecDepth 8000
namespace Go.Proofs.Ytmbbhagjfgjhgaa
open Go.RowKit Plain

theorem power_lt (n q : Nat) (hq : 2 ^ q = QQ) (h : n < q) (x : Int) (hx : x = (n : Int)) (hq5 : q = 512) (w : World) :
    Calls Try.prog 58 #[.int .i64 x] w fun e w' => e = .returned (.agg #[.int .u64 (dgl (2 ^ n) 0 : Nat), .int .u64 (dgl (2 ^ n) 1 : Nat), .int .u64 (dgl (2 ^ n) 2 : Nat), .int .u64 (dgl (2 ^ n) 3 : Nat), .int .u64 (dgl (2 ^ n) 4 : Nat), .int .u64 (dgl (2 ^ n) 5 : Nat), .int .u64 (dgl (2 ^ n) 6 : Nat), .int .u64 (dgl (2 ^ n) 7 : Nat)]) ∧ Below w.heap.size w w' := by
  subst hx
  have h1 := widePower_any (n : Int) (by omega) w
  have e1 : roomI (n : Int) = (n : Int) := by unfold roomI; omega
  rw [e1, sh_up, Nat.one_mul] at h1
  exact h1

end Go.Proofs.Ytmbbhagjfgjhgaa

/- Contracts: prod.Power. -/
set_option linter.unusedVariables false
set_option linter.unusedSimpArgs false
set_option maxRecDepth 8000
namespace Go.Proofs.Ytmbbhagjfgjhgaa
open Go.RowKit Plain

end Go.Proofs.Ytmbbhagjfgjhgaa

/- Likewise, where what a slot holds hangs on which stores have been done. -/
set_option linter.unusedVariables false
set_option linter.unusedSimpArgs false
set_option maxRecDepth 8000
namespace Go.Proofs.Ytmbbhagjfgjhgaa
open Go.RowKit Plain

theorem gUpon_of {P : Program} {K : Value → World → Prop} {r : Result Next} (X : World) (h : gUpon P (fun _ w' => w' = X) r) (hk : ∀ v, K v X) : gUpon P K r := by
  cases r with
  | ok x w' =>
    cases x <;> simp only [gUpon] at h ⊢
    case enter f args => exact h.mono fun e w'' ⟨v, he, hw⟩ => ⟨v, he, by subst hw; exact hk v⟩
    all_goals (subst h; exact hk _)
  | halt x w' => simp only [gUpon] at h

def SlotIs.any : SlotIs := ⟨fun _ _ => True, fun _ _ _ _ h => h⟩
theorem tbl_nil_imp {a : Act} {t : Tmp} {v : Value} {w w' : World} : tbl a t [] v w → tbl a t [] v w' := fun h => h
theorem val_imp {x v : Value} {w w' : World} : (SlotIs.val x).R v w → (SlotIs.val x).R v w' := fun h => h
theorem tbl_imp {a : Act} {t : Tmp} {v : Value} {w w' : World} {p q : Nat × SlotIs} {T1 T2 : List (Nat × SlotIs)} (hk : p.1 = q.1) (h : p.1 = t → p.2.R v w → q.2.R v w') (hr : tbl a t T1 v w → tbl a t T2 v w') :
    tbl a t (p :: T1) v w → tbl a t (q :: T2) v w' := by
  unfold tbl
  rw [← hk]
  cases hb : Nat.beq p.1 t
  · exact hr
  · exact h (Nat.eq_of_beq_eq_true hb)

section
variable {P : Program} {ops : Array Oper} {n : Nat} {a : Act} {T : List Bool → List (Nat × SlotIs)} {C : List Bool → World → Prop} {Q : Exit → Act → World → Prop} {ss : List Nat}

def kStore (P : Program) (ops : Array Oper) (a : Act) (T : List Bool → List (Nat × SlotIs)) (C : List Bool → World → Prop) (ss : List Nat) (k : Nat) (o : Oper) : Prop :=
  o.dst = none ∧ o.guard = none ∧ ∀ (φ : Nat → Bool) (ρ : Operand → Value) (w : World), φ k = false → C (ss.map φ) w → (∀ c, ρ (.const c) = c) → (∀ t ∈ o.looksAt ops, tbl a t (T (ss.map φ)) (ρ (.tmp t)) w) →
    gUpon P (fun _ w' => C (ss.map fun i => φ i || Nat.beq i k) w' ∧ ∀ t, tbl a t (T (ss.map φ)) (ρ (.tmp t)) w → tbl a t (T (ss.map fun i => φ i || Nat.beq i k)) (ρ (.tmp t)) w') ((execOp ρ o).run P w)

def kStep (P : Program) (ops : Array Oper) (a : Act) (T : List Bool → List (Nat × SlotIs)) (C : List Bool → World → Prop) (ss : List Nat) (k : Nat) (o : Oper) : Prop :=
  ∀ φ : Nat → Bool, (∀ s ∈ ss, Region.waitsFor .any ops s k = true → φ s = false) → gStep P ops a (T (ss.map φ)) (C (ss.map φ)) o

def kSteps (P : Program) (ops : Array Oper) (a : Act) (T : List Bool → List (Nat × SlotIs)) (C : List Bool → World → Prop) (ss : List Nat) : Nat → List Oper → Prop
  | _, [] => True
  | k, o :: rest => (if ss.contains k then kStore P ops a T C ss k o else kStep P ops a T C ss k o) ∧ kSteps P ops a T C ss (k + 1) rest
theorem kSt {k n : Nat} {o : Oper} {l : List Oper} (hk : ss.contains k = false) (h : kStep P ops a T C ss k o) (h2 : kSteps P ops a T C ss (k + 1) (l.take n)) : kSteps P ops a T C ss k ((o :: l).take (n + 1)) := by
  rw [List.take_succ_cons]; unfold kSteps; rw [hk]; exact ⟨h, h2⟩
theorem kStS {k n : Nat} {o : Oper} {l : List Oper} (hk : ss.contains k = true) (h : kStore P ops a T C ss k o) (h2 : kSteps P ops a T C ss (k + 1) (l.take n)) : kSteps P ops a T C ss k ((o :: l).take (n + 1)) := by
  rw [List.take_succ_cons]; unfold kSteps; rw [hk]; exact ⟨h, h2⟩
theorem kSt0 {k : Nat} {l : List Oper} : kSteps P ops a T C ss k (l.take 0) := trivial
theorem kSteps_get : ∀ (l : List Oper) (k i : Nat) (o : Oper), l[i]? = some o → kSteps P ops a T C ss k l → (if ss.contains (k + i) then kStore P ops a T C ss (k + i) o else kStep P ops a T C ss (k + i) o)
  | [], k, i, o, h, _ => by simp at h
  | x :: l, k, 0, o, h, hs => by simp at h; subst h; exact hs.1
  | x :: l, k, i + 1, o, h, hs => by
    have := kSteps_get l (k + 1) i o (by simpa using h) hs.2
    rw [show k + 1 + i = k + (i + 1) by omega] at this
    exact this

structure KInv (ops : Array Oper) (n : Nat) (a : Act) (T : List Bool → List (Nat × SlotIs)) (ds : List Nat) (C : List Bool → World → Prop) (ss : List Nat) (listed : Array Bool) (A : Act) (w : World) : Prop where
  c : C (ss.map fun i => listed.getD i false) w
  sz : A.tmps.size = a.tmps.size
  df : A.defers = a.defers
  kept : ∀ t, t ∉ ds → A.tmps[t]? = a.tmps[t]?
  known : ∀ t, (∀ i oi, i < n → ops[i]? = some oi → listed.getD i true = false → oi.dst ≠ some t) → tbl a t (T (ss.map fun i => listed.getD i false)) (A.eval (.tmp t)) w

theorem growK_any {ds : List Nat} (hTd : ∀ bs, (T bs).map Prod.fst = ds) (hB : gOkB ops n ds = true) (hss : ∀ i ∈ ss, i < n) (hCs : ∀ bs w w', C bs w → Below w.heap.size w w' → C bs w') (hsz : ∀ d ∈ ds, d < a.tmps.size)
    (hst : kSteps P ops a T C ss 0 (ops.toList.take n)) (hf : ∀ w', C (ss.map fun _ => true) w' → gFin a (T (ss.map fun _ => true)) (fun a' => wpList P ops Q (ops.toList.drop n) a' w') w' (ops.toList.take n) a) :
    ∀ (f : Nat) (L : List Nat) (listed : Array Bool) (A : Act) (w : World), L.length = f → L.Nodup → (∀ i, i ∈ L ↔ (i < n ∧ listed.getD i true = false)) →
      HeadInv .any ops n listed → KInv ops n a T ds C ss listed A w → wpAny P .any ops Q (f + (ops.size - n)) listed A w := by
  simp only [gOkB, Bool.and_eq_true, decide_eq_true_eq] at hB
  obtain ⟨⟨⟨⟨⟨hn, hlook⟩, hd⟩, hnd⟩, htail⟩, hseq⟩ := hB
  have hlk : ∀ j o, j < n → ops[j]? = some o → (∀ t ∈ o.looksAt ops, ∀ i oi, i < n → ops[i]? = some oi → oi.dst = some t → ∃ e ∈ o.after, Region.binds .any e = true ∧ e.on = i) ∧ (∀ e ∈ o.after, Region.binds .any e = true → e.on < j) := by
    intro j o hj ho
    have h1 := List.all_eq_true.1 hlook j (List.mem_range.2 hj)
    simp only [ho, Bool.and_eq_true] at h1
    constructor
    · intro t ht i oi hi hoi hdi
      have h2 := List.all_eq_true.1 (List.all_eq_true.1 h1.1 t ht) i (List.mem_range.2 hi)
      simp only [hoi, hdi, Bool.or_eq_true] at h2
      rcases h2 with h2 | h2
      · have : Nat.beq t t = true := Nat.beq_refl t
        rw [this] at h2; cases h2
      · obtain ⟨oj, hoj, e, he, hb, hon⟩ := Region.waitsFor_spec h2
        have : oj = o := Option.some.inj (hoj.symm.trans ho)
        subst this
        exact ⟨e, he, hb, hon⟩
    · intro e he hb
      have h2 := (Array.all_eq_true_iff_forall_mem.1 h1.2) e he
      simp only [hb, Bool.not_true, Bool.false_or, decide_eq_true_eq] at h2
      exact h2
  have hdst : ∀ i o, i < n → ops[i]? = some o → ∀ d, o.dst = some d → d ∈ ds := fun i o hi ho d hdo => by
    rw [← hd]
    refine List.mem_filterMap.2 ⟨o, ?_, hdo⟩
    rw [List.mem_iff_getElem?]
    exact ⟨i, by rw [List.getElem?_take_of_lt hi, Array.getElem?_toList]; exact ho⟩
  intro f
  induction f with
  | zero =>
    intro L listed A w hl hnd' hL hinv inv
    have hall : ∀ i, i < n → listed.getD i true = true := fun i hi => by
      cases hc : listed.getD i true
      · have := (hL i).2 ⟨hi, hc⟩
        rw [List.length_eq_zero_iff.1 hl] at this; cases this
      · rfl
    have hlist : listed = Array.replicate n true ++ Array.replicate (ops.size - n) false := by
      apply Array.ext_getElem?
      intro i
      by_cases h1 : i < n
      · have h2 := hall i h1
        have h3 : i < listed.size := by rw [hinv.size]; omega
        simp [h3] at h2
        rw [Array.getElem?_append_left (by simpa using h1)]
        simp [h1, h3, h2]
      · by_cases h4 : i < ops.size
        · have h2 := hinv.tail i (by omega) h4
          have h3 : i < listed.size := by rw [hinv.size]; omega
          simp [h3] at h2
          rw [Array.getElem?_append_right (by simp; omega), Array.getElem?_eq_getElem h3, Array.getElem?_replicate, if_pos (by simp; omega), h2]
        · rw [Array.getElem?_eq_none (by rw [hinv.size]; omega), Array.getElem?_eq_none (by simp; omega)]
    rw [Nat.zero_add]
    have hmap : (ss.map fun i => listed.getD i false) = ss.map fun _ => true := List.map_congr_left (fun i hi => by
      have h1 := hall i (hss i hi)
      have h3 : i < listed.size := by rw [hinv.size]; have := hss i hi; omega
      simp [h3] at h1 ⊢; exact h1)
    have hc1 := inv.c
    have hk1 := inv.known
    rw [hmap] at hc1 hk1
    have hQ := gFin_use (a := a) (T := T (ss.map fun _ => true)) (w := w) _ A a inv.sz inv.df (by rw [hd]; exact hnd) (fun t ht => inv.kept t (by rw [← hd]; exact ht)) (fun d hdm => hk1 d (fun i oi hi hoi hli => by rw [hall i hi] at hli; cases hli)) (hf w hc1)
    have := wpAny_of_seq (md := .any) (Q' := Q) (ops.toList.drop n) n listed A w (fun j => by simp [List.getElem?_drop]) (by rw [hlist]; simpa using hseq) hQ
    simpa using this
  | succ f ih =>
    intro L listed A w hl hnd' hL hinv inv
    have hne : ∃ i, i < n ∧ listed.getD i true = false := by
      cases L with
      | nil => cases hl
      | cons i L => exact ⟨i, (hL i).1 (by simp)⟩
    have hready : Region.ready .any ops listed ≠ [] := by
      intro hr
      obtain ⟨i, hi, hli⟩ := hne
      have key : ∀ m, ∀ j, j < m → j < n → listed.getD j true = true := by
        intro m
        induction m with
        | zero => intro j hj; omega
        | succ m ihm =>
          intro j hj hjn
          rcases Nat.lt_or_ge j m with h | h
          · exact ihm j h hjn
          · cases hc : listed.getD j true
            · have hjs : j < ops.size := by omega
              have : j ∈ Region.ready .any ops listed := mem_ready.2 ⟨hc, ops[j], by simp [hjs], fun e he hb => by
                have h1 := (hlk j ops[j] hjn (by simp [hjs])).2 e he hb
                have h2 := ihm e.on (by omega) (by omega)
                have h3 : e.on < listed.size := by rw [hinv.size]; omega
                simp [h3] at h2 ⊢; exact h2⟩
              rw [hr] at this; cases this
            · rfl
      rw [key (i + 1) i (by omega) hi] at hli; cases hli
    rw [show f + 1 + (ops.size - n) = (f + (ops.size - n)) + 1 by omega]
    refine ⟨fun h => absurd h hready, fun i hi => ?_⟩
    have hin : i < n := by
      rcases Nat.lt_or_ge i n with h | h
      · exact h
      · simp only [Bool.or_eq_true, Bool.and_eq_true, decide_eq_true_eq] at htail
        rcases htail with ht | ⟨⟨h1, h2⟩, h3⟩
        · obtain ⟨_, o, ho, _⟩ := mem_ready.1 hi
          have := (Array.getElem?_eq_some_iff.1 ho).1
          omega
        · obtain ⟨k, hk, hlk'⟩ := hne
          exact absurd hi (tail_waits h2 h3 h1 hinv _ k rfl hk hlk' i h)
    obtain ⟨hun, o, ho, hafter⟩ := mem_ready.1 hi
    have hlooks : ∀ t ∈ o.looksAt ops, tbl a t (T (ss.map fun i => listed.getD i false)) (A.eval (.tmp t)) w := fun t ht => inv.known t (fun j oj hj hoj hlj hdj => by
      obtain ⟨e, he, hb, hon⟩ := (hlk i o hin ho).1 t ht j oj hj hoj hdj
      have h1 := hafter e he hb
      rw [hon, getD_both hlj] at h1; cases h1)
    have hnext : ∀ v w', (∀ t, tbl a t (T (ss.map fun i => listed.getD i false)) (A.eval (.tmp t)) w → tbl a t (T (ss.map fun j => (listed.setIfInBounds i true).getD j false)) (A.eval (.tmp t)) w') → (match o.dst with | some d => tbl a d (T (ss.map fun j => (listed.setIfInBounds i true).getD j false)) v w' | none => True) → C (ss.map fun j => (listed.setIfInBounds i true).getD j false) w' →
        wpAny P .any ops Q (f + (ops.size - n)) (listed.setIfInBounds i true) (A.put o.dst v) w' := fun v w' hmon hp hc' => by
      refine ih (L.erase i) _ _ _ ?_ (hnd'.erase i) (fun j => ?_) (hinv.set hi hin) ⟨hc', by rw [put_sz]; exact inv.sz, by rw [put_df]; exact inv.df, fun t ht => ?_, fun t ht => ?_⟩
      · rw [List.length_erase_of_mem ((hL i).2 ⟨hin, hun⟩), hl]; rfl
      · rw [hnd'.mem_erase_iff, hL j]
        constructor
        · rintro ⟨h1, h2, h3⟩
          exact ⟨h2, by rw [getD_set_ne true (fun e => h1 e.symm)]; exact h3⟩
        · rintro ⟨h2, h3⟩
          by_cases hij : i = j
          · subst hij
            have : i < listed.size := by rw [hinv.size]; omega
            simp [this] at h3
          · rw [getD_set_ne true hij] at h3
            exact ⟨fun e => hij e.symm, h2, h3⟩
      · rw [← inv.kept t ht]
        cases hdo : o.dst with
        | none => rfl
        | some d =>
          have : d ≠ t := fun e => ht (e ▸ hdst i o hin ho d hdo)
          simp [Act.put, Array.getElem?_setIfInBounds_ne this]
      · by_cases hdt : o.dst = some t
        · rw [hdt] at hp
          have e : (A.put o.dst v).eval (.tmp t) = v := by
            rw [hdt]
            have : t < A.tmps.size := by rw [inv.sz]; exact hsz t (hdst i o hin ho t hdt)
            simp [Act.put, Act.eval, this]
          rw [e]; exact hp
        · have e : (A.put o.dst v).eval (.tmp t) = A.eval (.tmp t) := Act.eval_put (fun d h1 h2 => hdt (by rw [h1]; cases h2; rfl))
          rw [e]
          refine hmon t (inv.known t fun j oj hj hoj hl => ?_)
          by_cases hij : i = j
          · subst hij
            have : oj = o := Option.some.inj (hoj.symm.trans ho)
            subst this; exact hdt
          · exact ht j oj hj hoj (by rw [getD_set_ne true hij]; exact hl)
    have hget := kSteps_get _ 0 i o (by rw [List.getElem?_take_of_lt hin, Array.getElem?_toList]; exact ho) hst
    rw [Nat.zero_add] at hget
    have hils : i < listed.size := by rw [hinv.size]; omega
    unfold wpOp
    simp only [ho]
    cases hsi : ss.contains i with
    | true =>
      rw [hsi] at hget
      obtain ⟨hd0, hg0, hgo⟩ := hget
      have hw : Region.wanted o (yielded ops A.tmps) = true := by unfold Region.wanted; rw [hg0]
      rw [if_pos hw]
      have hmp : (ss.map fun j => listed.getD j false || Nat.beq j i) = ss.map fun j => (listed.setIfInBounds i true).getD j false := List.map_congr_left (fun j _ => by
        by_cases hij : i = j
        · subst hij
          have : Nat.beq i i = true := Nat.beq_refl i
          simp [hils, this]
        · rw [getD_set_ne false hij]
          have : Nat.beq j i = false := by
            cases hb : Nat.beq j i
            · rfl
            · exact absurd (Nat.eq_of_beq_eq_true hb).symm hij
          simp [this])
      have hrun := hgo (fun j => listed.getD j false) A.eval w (getD_both hun) inv.c (fun _ => rfl) hlooks
      rw [hmp] at hrun
      exact .inl (wp_of_gOp (fun v w' hk => hnext v w' hk.2 (by rw [hd0]; trivial) hk.1) hrun)
    | false =>
      rw [hsi] at hget
      have hstep := hget (fun j => listed.getD j false) (fun s hs hw => by
        obtain ⟨os, hos, e, he, hb, hon⟩ := Region.waitsFor_spec hw
        cases hl2 : listed.getD s false
        · rfl
        · have h2 := hinv.closed s os hos hl2 e he hb
          rw [hon, getD_both hun] at h2
          cases h2) A w inv.c hlooks
      have hsame : (ss.map fun j => (listed.setIfInBounds i true).getD j false) = ss.map fun j => listed.getD j false := List.map_congr_left (fun j hj => by
        refine getD_set_ne false (fun e => ?_)
        subst e
        rw [List.contains_iff_mem.2 hj] at hsi
        cases hsi)
      have go : ∀ v w', gPost a (T (ss.map fun j => listed.getD j false)) o w v w' → wpAny P .any ops Q (f + (ops.size - n)) (listed.setIfInBounds i true) (A.put o.dst v) w' := fun v w' hp =>
        hnext v w' (fun t => by rw [hsame]; exact tbl_mono a t _ w w' hp.1 _) (by rw [hsame]; exact hp.2) (by rw [hsame]; exact hCs _ _ _ inv.c hp.1)
      split
      · rename_i hw
        simp only [hw, if_true] at hstep
        exact .inl (wp_of_gOp go hstep)
      · rename_i hw
        simp only [hw] at hstep
        exact go _ _ hstep

theorem wp_region_storeK {id : Nat} {w : World} {l : List Oper} (n : Nat) (ss : List Nat) (ds : List Nat) (T : List Bool → List (Nat × SlotIs)) (C : List Bool → World → Prop) (hTd : ∀ bs, (T bs).map Prod.fst = ds) (hm : P.follows .mixedOrders = true) (hB : gOkB l.toArray n ds = true)
    (hsz : ds.all (fun d => Nat.blt d a.tmps.size) = true) (hss : ss.all (fun i => Nat.blt i n) = true) (hC : C (ss.map fun _ => false) w.drew) (hCs : ∀ bs w w', C bs w → Below w.heap.size w w' → C bs w')
    (hst : kSteps P l.toArray a T C ss 0 (l.take n)) (hf : ∀ w', C (ss.map fun _ => true) w' → gFin a (T (ss.map fun _ => true)) (fun a' => wpList P l.toArray Q (l.drop n) a' w') w' (l.take n) a) :
    (Code.region id l.toArray true).wp P Q a w := by
  refine wp_region_any hm ?_
  have hn : n ≤ l.toArray.size := by
    simp only [gOkB, Bool.and_eq_true, decide_eq_true_eq] at hB
    exact hB.1.1.1.1.1
  have := growK_any (P := P) (ops := l.toArray) (n := n) (a := a) (T := T) (C := C) (ss := ss) (Q := Q) hTd hB (fun i hi => by have := List.all_eq_true.1 hss i hi; simpa [Nat.blt_eq] using this) hCs (fun d hd => by have := List.all_eq_true.1 hsz d hd; simpa [Nat.blt_eq] using this) (by simpa using hst) (by simpa using hf) n (List.range n) (Array.replicate l.toArray.size false) a w.drew (by simp) List.nodup_range
    (fun i => by
      rw [List.mem_range]
      constructor
      · intro h
        have : i < l.length := by have : n ≤ l.length := by simpa using hn
                                  omega
        exact ⟨h, by simp [this]⟩
      · exact fun h => h.1)
    ⟨by simp, fun j oj _ hl => (by rw [getD_replicate_false] at hl; cases hl), fun t _ ht => getD_in (by simpa using ht) (getD_replicate_false _ _)⟩
    ⟨by rw [List.map_congr_left (g := fun _ => false) (fun i _ => getD_replicate_false _ _)]; exact hC, rfl, rfl, fun _ _ => rfl, fun t ht => tbl_out a t _ _ rfl (T _) (fun hmem => by
      rw [hTd] at hmem
      have hd : ((l.toArray.toList.take n).filterMap (·.dst)) = ds := by
        simp only [gOkB, Bool.and_eq_true, decide_eq_true_eq] at hB
        exact hB.1.1.1.2
      rw [← hd] at hmem
      obtain ⟨o, ho, hdo⟩ := List.mem_filterMap.1 hmem
      obtain ⟨i, hi⟩ := List.mem_iff_getElem?.1 ho
      have hin : i < n := by
        rcases Nat.lt_or_ge i n with h | h
        · exact h
        · rw [List.getElem?_eq_none (by simp; omega)] at hi; cases hi
      rw [List.getElem?_take_of_lt hin] at hi
      have hil : i < l.length := by
        rcases Nat.lt_or_ge i l.length with h | h
        · exact h
        · rw [List.getElem?_eq_none h] at hi; cases hi
      exact ht i o hin (by simpa using hi) (by simp [hil]) hdo)⟩
  rwa [show n + (l.toArray.size - n) = l.toArray.size by omega] at this
end
end Go.Proofs.Ytmbbhagjfgjhgaa

/- Likewise, where the region lays several blocks of its own: the slots that hold them are told apart. -/
set_option linter.unusedVariables false
set_option linter.unusedSimpArgs false
set_option maxRecDepth 8000
namespace Go.Proofs.Ytmbbhagjfgjhgaa
open Go.RowKit Plain

section
variable {P : Program} {ops : Array Oper} {n : Nat} {a : Act} {T : List Bool → List (Nat × SlotIs)} {C : List Bool → World → Prop} {Q : Exit → Act → World → Prop} {ss : List Nat} {fs : List Nat}

end
end Go.Proofs.Ytmbbhagjfgjhgaa

/- Contracts: the document's quotients (radicandref11). -/
set_option linter.unusedVariables false
set_option linter.unusedSimpArgs false
set_option maxRecDepth 8000
namespace Go.Proofs.Ytmbbhagjfgjhgaa
open Go.RowKit Plain

theorem bitLen_above (d k : Nat) : k < Go.bitLen d ↔ 2 ^ k ≤ d := by
  constructor
  · intro h
    rcases Nat.lt_or_ge d (2 ^ k) with h1 | h1
    · have := bitLen_le d k h1
      omega
    · exact h1
  · intro h
    rcases Nat.lt_or_ge k (Go.bitLen d) with h1 | h1
    · exact h1
    · have h2 := bitLen_lt d
      have h3 : 2 ^ Go.bitLen d ≤ 2 ^ k := Nat.pow_le_pow_right (by decide) h1
      omega
end Go.Proofs.Ytmbbhagjfgjhgaa

/- Contracts: wide.Power below 0, wide.Mask, wide.Bit below 0, wide.Low, wide.From. -/
set_option linter.unusedVariables false
set_option linter.unusedSimpArgs false
set_option maxRecDepth 8000
namespace Go.Proofs.Ytmbbhagjfgjhgaa
open Go.RowKit Plain

end Go.Proofs.Ytmbbhagjfgjhgaa

