/- Contracts and laws: GrowK, GrowJ, ModA, ModB, ModC, ModD, ModE, ModF. -/
import Derived.Test.YtpcjdllijkjdkaaGreatDoorPartAN
import Derived.Test.YtpcjdllijkjdkaaGreatDoorPartAK
import Derived.Test.YtpcjdllijkjdkaaGreatDoorPartAG
import Derived.Deep.DeepCutAuto
/- Likewise, where what a slot holds hangs on which stores have been done. -/
set_option linter.unusedVariables false
set_option linter.unusedSimpArgs false
set_option maxRecDepth 8000
namespace Go.Proofs.YtpcjdllijkjdkaaGreatDoor
open Go.RowKit Plain

theorem gUpon_of {P : Program} {K : Value → World → Prop} {r : Result Next} (X : World) (h : gUpon P (fun _ w' => w' = X) r) (hk : ∀ v, K v X) : gUpon P K r := by
  cases r with
  | ok x w' =>
    cases x <;> simp only [gUpon] at h ⊢
    case enter f args => exact h.mono fun e w'' ⟨v, he, hw⟩ => ⟨v, he, by subst hw; exact hk v⟩
    all_goals (subst h; exact hk _)
  | halt x w' => simp only [gUpon] at h

def SlotIs.any : SlotIs := ⟨fun _ _ => True, fun _ _ _ _ h => h⟩
theorem tbl_nil_imp {a : Act} {t : Tmp} {v : Value} {w w' : World} : tbl a t [] v w → tbl a t [] v w' := fun h => h
theorem val_imp {x v : Value} {w w' : World} : (SlotIs.val x).R v w → (SlotIs.val x).R v w' := fun h => h
theorem tbl_imp {a : Act} {t : Tmp} {v : Value} {w w' : World} {p q : Nat × SlotIs} {T1 T2 : List (Nat × SlotIs)} (hk : p.1 = q.1) (h : p.1 = t → p.2.R v w → q.2.R v w') (hr : tbl a t T1 v w → tbl a t T2 v w') :
    tbl a t (p :: T1) v w → tbl a t (q :: T2) v w' := by
  unfold tbl
  rw [← hk]
  cases hb : Nat.beq p.1 t
  · exact hr
  · exact h (Nat.eq_of_beq_eq_true hb)

section
variable {P : Program} {ops : Array Oper} {n : Nat} {a : Act} {T : List Bool → List (Nat × SlotIs)} {C : List Bool → World → Prop} {Q : Exit → Act → World → Prop} {ss : List Nat}

def kStore (P : Program) (ops : Array Oper) (a : Act) (T : List Bool → List (Nat × SlotIs)) (C : List Bool → World → Prop) (ss : List Nat) (k : Nat) (o : Oper) : Prop :=
  o.dst = none ∧ o.guard = none ∧ ∀ (φ : Nat → Bool) (ρ : Operand → Value) (w : World), φ k = false → C (ss.map φ) w → (∀ c, ρ (.const c) = c) → (∀ t ∈ o.looksAt ops, tbl a t (T (ss.map φ)) (ρ (.tmp t)) w) →
    gUpon P (fun _ w' => C (ss.map fun i => φ i || Nat.beq i k) w' ∧ ∀ t, tbl a t (T (ss.map φ)) (ρ (.tmp t)) w → tbl a t (T (ss.map fun i => φ i || Nat.beq i k)) (ρ (.tmp t)) w') ((execOp ρ o).run P w)

def kStep (P : Program) (ops : Array Oper) (a : Act) (T : List Bool → List (Nat × SlotIs)) (C : List Bool → World → Prop) (ss : List Nat) (k : Nat) (o : Oper) : Prop :=
  ∀ φ : Nat → Bool, (∀ s ∈ ss, Region.waitsFor .any ops s k = true → φ s = false) → gStep P ops a (T (ss.map φ)) (C (ss.map φ)) o

def kSteps (P : Program) (ops : Array Oper) (a : Act) (T : List Bool → List (Nat × SlotIs)) (C : List Bool → World → Prop) (ss : List Nat) : Nat → List Oper → Prop
  | _, [] => True
  | k, o :: rest => (if ss.contains k then kStore P ops a T C ss k o else kStep P ops a T C ss k o) ∧ kSteps P ops a T C ss (k + 1) rest
theorem kSt {k n : Nat} {o : Oper} {l : List Oper} (hk : ss.contains k = false) (h : kStep P ops a T C ss k o) (h2 : kSteps P ops a T C ss (k + 1) (l.take n)) : kSteps P ops a T C ss k ((o :: l).take (n + 1)) := by
  rw [List.take_succ_cons]; unfold kSteps; rw [hk]; exact ⟨h, h2⟩
theorem kStS {k n : Nat} {o : Oper} {l : List Oper} (hk : ss.contains k = true) (h : kStore P ops a T C ss k o) (h2 : kSteps P ops a T C ss (k + 1) (l.take n)) : kSteps P ops a T C ss k ((o :: l).take (n + 1)) := by
  rw [List.take_succ_cons]; unfold kSteps; rw [hk]; exact ⟨h, h2⟩
theorem kSt0 {k : Nat} {l : List Oper} : kSteps P ops a T C ss k (l.take 0) := trivial
theorem kSteps_get : ∀ (l : List Oper) (k i : Nat) (o : Oper), l[i]? = some o → kSteps P ops a T C ss k l → (if ss.contains (k + i) then kStore P ops a T C ss (k + i) o else kStep P ops a T C ss (k + i) o)
  | [], k, i, o, h, _ => by simp at h
  | x :: l, k, 0, o, h, hs => by simp at h; subst h; exact hs.1
  | x :: l, k, i + 1, o, h, hs => by
    have := kSteps_get l (k + 1) i o (by simpa using h) hs.2
    rw [show k + 1 + i = k + (i + 1) by omega] at this
    exact this

structure KInv (ops : Array Oper) (n : Nat) (a : Act) (T : List Bool → List (Nat × SlotIs)) (ds : List Nat) (C : List Bool → World → Prop) (ss : List Nat) (listed : Array Bool) (A : Act) (w : World) : Prop where
  c : C (ss.map fun i => listed.getD i false) w
  sz : A.tmps.size = a.tmps.size
  df : A.defers = a.defers
  kept : ∀ t, t ∉ ds → A.tmps[t]? = a.tmps[t]?
  known : ∀ t, (∀ i oi, i < n → ops[i]? = some oi → listed.getD i true = false → oi.dst ≠ some t) → tbl a t (T (ss.map fun i => listed.getD i false)) (A.eval (.tmp t)) w

theorem growK_any {ds : List Nat} (hTd : ∀ bs, (T bs).map Prod.fst = ds) (hB : gOkB ops n ds = true) (hss : ∀ i ∈ ss, i < n) (hCs : ∀ bs w w', C bs w → Below w.heap.size w w' → C bs w') (hsz : ∀ d ∈ ds, d < a.tmps.size)
    (hst : kSteps P ops a T C ss 0 (ops.toList.take n)) (hf : ∀ w', C (ss.map fun _ => true) w' → gFin a (T (ss.map fun _ => true)) (fun a' => wpList P ops Q (ops.toList.drop n) a' w') w' (ops.toList.take n) a) :
    ∀ (f : Nat) (L : List Nat) (listed : Array Bool) (A : Act) (w : World), L.length = f → L.Nodup → (∀ i, i ∈ L ↔ (i < n ∧ listed.getD i true = false)) →
      HeadInv .any ops n listed → KInv ops n a T ds C ss listed A w → wpAny P .any ops Q (f + (ops.size - n)) listed A w := by
  simp only [gOkB, Bool.and_eq_true, decide_eq_true_eq] at hB
  obtain ⟨⟨⟨⟨⟨hn, hlook⟩, hd⟩, hnd⟩, htail⟩, hseq⟩ := hB
  have hlk : ∀ j o, j < n → ops[j]? = some o → (∀ t ∈ o.looksAt ops, ∀ i oi, i < n → ops[i]? = some oi → oi.dst = some t → ∃ e ∈ o.after, Region.binds .any e = true ∧ e.on = i) ∧ (∀ e ∈ o.after, Region.binds .any e = true → e.on < j) := by
    intro j o hj ho
    have h1 := List.all_eq_true.1 hlook j (List.mem_range.2 hj)
    simp only [ho, Bool.and_eq_true] at h1
    constructor
    · intro t ht i oi hi hoi hdi
      have h2 := List.all_eq_true.1 (List.all_eq_true.1 h1.1 t ht) i (List.mem_range.2 hi)
      simp only [hoi, hdi, Bool.or_eq_true] at h2
      rcases h2 with h2 | h2
      · have : Nat.beq t t = true := Nat.beq_refl t
        rw [this] at h2; cases h2
      · obtain ⟨oj, hoj, e, he, hb, hon⟩ := Region.waitsFor_spec h2
        have : oj = o := Option.some.inj (hoj.symm.trans ho)
        subst this
        exact ⟨e, he, hb, hon⟩
    · intro e he hb
      have h2 := (Array.all_eq_true_iff_forall_mem.1 h1.2) e he
      simp only [hb, Bool.not_true, Bool.false_or, decide_eq_true_eq] at h2
      exact h2
  have hdst : ∀ i o, i < n → ops[i]? = some o → ∀ d, o.dst = some d → d ∈ ds := fun i o hi ho d hdo => by
    rw [← hd]
    refine List.mem_filterMap.2 ⟨o, ?_, hdo⟩
    rw [List.mem_iff_getElem?]
    exact ⟨i, by rw [List.getElem?_take_of_lt hi, Array.getElem?_toList]; exact ho⟩
  intro f
  induction f with
  | zero =>
    intro L listed A w hl hnd' hL hinv inv
    have hall : ∀ i, i < n → listed.getD i true = true := fun i hi => by
      cases hc : listed.getD i true
      · have := (hL i).2 ⟨hi, hc⟩
        rw [List.length_eq_zero_iff.1 hl] at this; cases this
      · rfl
    have hlist : listed = Array.replicate n true ++ Array.replicate (ops.size - n) false := by
      apply Array.ext_getElem?
      intro i
      by_cases h1 : i < n
      · have h2 := hall i h1
        have h3 : i < listed.size := by rw [hinv.size]; omega
        simp [h3] at h2
        rw [Array.getElem?_append_left (by simpa using h1)]
        simp [h1, h3, h2]
      · by_cases h4 : i < ops.size
        · have h2 := hinv.tail i (by omega) h4
          have h3 : i < listed.size := by rw [hinv.size]; omega
          simp [h3] at h2
          rw [Array.getElem?_append_right (by simp; omega), Array.getElem?_eq_getElem h3, Array.getElem?_replicate, if_pos (by simp; omega), h2]
        · rw [Array.getElem?_eq_none (by rw [hinv.size]; omega), Array.getElem?_eq_none (by simp; omega)]
    rw [Nat.zero_add]
    have hmap : (ss.map fun i => listed.getD i false) = ss.map fun _ => true := List.map_congr_left (fun i hi => by
      have h1 := hall i (hss i hi)
      have h3 : i < listed.size := by rw [hinv.size]; have := hss i hi; omega
      simp [h3] at h1 ⊢; exact h1)
    have hc1 := inv.c
    have hk1 := inv.known
    rw [hmap] at hc1 hk1
    have hQ := gFin_use (a := a) (T := T (ss.map fun _ => true)) (w := w) _ A a inv.sz inv.df (by rw [hd]; exact hnd) (fun t ht => inv.kept t (by rw [← hd]; exact ht)) (fun d hdm => hk1 d (fun i oi hi hoi hli => by rw [hall i hi] at hli; cases hli)) (hf w hc1)
    have := wpAny_of_seq (md := .any) (Q' := Q) (ops.toList.drop n) n listed A w (fun j => by simp [List.getElem?_drop]) (by rw [hlist]; simpa using hseq) hQ
    simpa using this
  | succ f ih =>
    intro L listed A w hl hnd' hL hinv inv
    have hne : ∃ i, i < n ∧ listed.getD i true = false := by
      cases L with
      | nil => cases hl
      | cons i L => exact ⟨i, (hL i).1 (by simp)⟩
    have hready : Region.ready .any ops listed ≠ [] := by
      intro hr
      obtain ⟨i, hi, hli⟩ := hne
      have key : ∀ m, ∀ j, j < m → j < n → listed.getD j true = true := by
        intro m
        induction m with
        | zero => intro j hj; omega
        | succ m ihm =>
          intro j hj hjn
          rcases Nat.lt_or_ge j m with h | h
          · exact ihm j h hjn
          · cases hc : listed.getD j true
            · have hjs : j < ops.size := by omega
              have : j ∈ Region.ready .any ops listed := mem_ready.2 ⟨hc, ops[j], by simp [hjs], fun e he hb => by
                have h1 := (hlk j ops[j] hjn (by simp [hjs])).2 e he hb
                have h2 := ihm e.on (by omega) (by omega)
                have h3 : e.on < listed.size := by rw [hinv.size]; omega
                simp [h3] at h2 ⊢; exact h2⟩
              rw [hr] at this; cases this
            · rfl
      rw [key (i + 1) i (by omega) hi] at hli; cases hli
    rw [show f + 1 + (ops.size - n) = (f + (ops.size - n)) + 1 by omega]
    refine ⟨fun h => absurd h hready, fun i hi => ?_⟩
    have hin : i < n := by
      rcases Nat.lt_or_ge i n with h | h
      · exact h
      · simp only [Bool.or_eq_true, Bool.and_eq_true, decide_eq_true_eq] at htail
        rcases htail with ht | ⟨⟨h1, h2⟩, h3⟩
        · obtain ⟨_, o, ho, _⟩ := mem_ready.1 hi
          have := (Array.getElem?_eq_some_iff.1 ho).1
          omega
        · obtain ⟨k, hk, hlk'⟩ := hne
          exact absurd hi (tail_waits h2 h3 h1 hinv _ k rfl hk hlk' i h)
    obtain ⟨hun, o, ho, hafter⟩ := mem_ready.1 hi
    have hlooks : ∀ t ∈ o.looksAt ops, tbl a t (T (ss.map fun i => listed.getD i false)) (A.eval (.tmp t)) w := fun t ht => inv.known t (fun j oj hj hoj hlj hdj => by
      obtain ⟨e, he, hb, hon⟩ := (hlk i o hin ho).1 t ht j oj hj hoj hdj
      have h1 := hafter e he hb
      rw [hon, getD_both hlj] at h1; cases h1)
    have hnext : ∀ v w', (∀ t, tbl a t (T (ss.map fun i => listed.getD i false)) (A.eval (.tmp t)) w → tbl a t (T (ss.map fun j => (listed.setIfInBounds i true).getD j false)) (A.eval (.tmp t)) w') → (match o.dst with | some d => tbl a d (T (ss.map fun j => (listed.setIfInBounds i true).getD j false)) v w' | none => True) → C (ss.map fun j => (listed.setIfInBounds i true).getD j false) w' →
        wpAny P .any ops Q (f + (ops.size - n)) (listed.setIfInBounds i true) (A.put o.dst v) w' := fun v w' hmon hp hc' => by
      refine ih (L.erase i) _ _ _ ?_ (hnd'.erase i) (fun j => ?_) (hinv.set hi hin) ⟨hc', by rw [put_sz]; exact inv.sz, by rw [put_df]; exact inv.df, fun t ht => ?_, fun t ht => ?_⟩
      · rw [List.length_erase_of_mem ((hL i).2 ⟨hin, hun⟩), hl]; rfl
      · rw [hnd'.mem_erase_iff, hL j]
        constructor
        · rintro ⟨h1, h2, h3⟩
          exact ⟨h2, by rw [getD_set_ne true (fun e => h1 e.symm)]; exact h3⟩
        · rintro ⟨h2, h3⟩
          by_cases hij : i = j
          · subst hij
            have : i < listed.size := by rw [hinv.size]; omega
            simp [this] at h3
          · rw [getD_set_ne true hij] at h3
            exact ⟨fun e => hij e.symm, h2, h3⟩
      · rw [← inv.kept t ht]
        cases hdo : o.dst with
        | none => rfl
        | some d =>
          have : d ≠ t := fun e => ht (e ▸ hdst i o hin ho d hdo)
          simp [Act.put, Array.getElem?_setIfInBounds_ne this]
      · by_cases hdt : o.dst = some t
        · rw [hdt] at hp
          have e : (A.put o.dst v).eval (.tmp t) = v := by
            rw [hdt]
            have : t < A.tmps.size := by rw [inv.sz]; exact hsz t (hdst i o hin ho t hdt)
            simp [Act.put, Act.eval, this]
          rw [e]; exact hp
        · have e : (A.put o.dst v).eval (.tmp t) = A.eval (.tmp t) := Act.eval_put (fun d h1 h2 => hdt (by rw [h1]; cases h2; rfl))
          rw [e]
          refine hmon t (inv.known t fun j oj hj hoj hl => ?_)
          by_cases hij : i = j
          · subst hij
            have : oj = o := Option.some.inj (hoj.symm.trans ho)
            subst this; exact hdt
          · exact ht j oj hj hoj (by rw [getD_set_ne true hij]; exact hl)
    have hget := kSteps_get _ 0 i o (by rw [List.getElem?_take_of_lt hin, Array.getElem?_toList]; exact ho) hst
    rw [Nat.zero_add] at hget
    have hils : i < listed.size := by rw [hinv.size]; omega
    unfold wpOp
    simp only [ho]
    cases hsi : ss.contains i with
    | true =>
      rw [hsi] at hget
      obtain ⟨hd0, hg0, hgo⟩ := hget
      have hw : Region.wanted o (yielded ops A.tmps) = true := by unfold Region.wanted; rw [hg0]
      rw [if_pos hw]
      have hmp : (ss.map fun j => listed.getD j false || Nat.beq j i) = ss.map fun j => (listed.setIfInBounds i true).getD j false := List.map_congr_left (fun j _ => by
        by_cases hij : i = j
        · subst hij
          have : Nat.beq i i = true := Nat.beq_refl i
          simp [hils, this]
        · rw [getD_set_ne false hij]
          have : Nat.beq j i = false := by
            cases hb : Nat.beq j i
            · rfl
            · exact absurd (Nat.eq_of_beq_eq_true hb).symm hij
          simp [this])
      have hrun := hgo (fun j => listed.getD j false) A.eval w (getD_both hun) inv.c (fun _ => rfl) hlooks
      rw [hmp] at hrun
      exact .inl (wp_of_gOp (fun v w' hk => hnext v w' hk.2 (by rw [hd0]; trivial) hk.1) hrun)
    | false =>
      rw [hsi] at hget
      have hstep := hget (fun j => listed.getD j false) (fun s hs hw => by
        obtain ⟨os, hos, e, he, hb, hon⟩ := Region.waitsFor_spec hw
        cases hl2 : listed.getD s false
        · rfl
        · have h2 := hinv.closed s os hos hl2 e he hb
          rw [hon, getD_both hun] at h2
          cases h2) A w inv.c hlooks
      have hsame : (ss.map fun j => (listed.setIfInBounds i true).getD j false) = ss.map fun j => listed.getD j false := List.map_congr_left (fun j hj => by
        refine getD_set_ne false (fun e => ?_)
        subst e
        rw [List.contains_iff_mem.2 hj] at hsi
        cases hsi)
      have go : ∀ v w', gPost a (T (ss.map fun j => listed.getD j false)) o w v w' → wpAny P .any ops Q (f + (ops.size - n)) (listed.setIfInBounds i true) (A.put o.dst v) w' := fun v w' hp =>
        hnext v w' (fun t => by rw [hsame]; exact tbl_mono a t _ w w' hp.1 _) (by rw [hsame]; exact hp.2) (by rw [hsame]; exact hCs _ _ _ inv.c hp.1)
      split
      · rename_i hw
        simp only [hw, if_true] at hstep
        exact .inl (wp_of_gOp go hstep)
      · rename_i hw
        simp only [hw] at hstep
        exact go _ _ hstep

theorem wp_region_storeK {id : Nat} {w : World} {l : List Oper} (n : Nat) (ss : List Nat) (ds : List Nat) (T : List Bool → List (Nat × SlotIs)) (C : List Bool → World → Prop) (hTd : ∀ bs, (T bs).map Prod.fst = ds) (hm : P.follows .mixedOrders = true) (hB : gOkB l.toArray n ds = true)
    (hsz : ds.all (fun d => Nat.blt d a.tmps.size) = true) (hss : ss.all (fun i => Nat.blt i n) = true) (hC : C (ss.map fun _ => false) w.drew) (hCs : ∀ bs w w', C bs w → Below w.heap.size w w' → C bs w')
    (hst : kSteps P l.toArray a T C ss 0 (l.take n)) (hf : ∀ w', C (ss.map fun _ => true) w' → gFin a (T (ss.map fun _ => true)) (fun a' => wpList P l.toArray Q (l.drop n) a' w') w' (l.take n) a) :
    (Code.region id l.toArray true).wp P Q a w := by
  refine wp_region_any hm ?_
  have hn : n ≤ l.toArray.size := by
    simp only [gOkB, Bool.and_eq_true, decide_eq_true_eq] at hB
    exact hB.1.1.1.1.1
  have := growK_any (P := P) (ops := l.toArray) (n := n) (a := a) (T := T) (C := C) (ss := ss) (Q := Q) hTd hB (fun i hi => by have := List.all_eq_true.1 hss i hi; simpa [Nat.blt_eq] using this) hCs (fun d hd => by have := List.all_eq_true.1 hsz d hd; simpa [Nat.blt_eq] using this) (by simpa using hst) (by simpa using hf) n (List.range n) (Array.replicate l.toArray.size false) a w.drew (by simp) List.nodup_range
    (fun i => by
      rw [List.mem_range]
      constructor
      · intro h
        have : i < l.length := by have : n ≤ l.length := by simpa using hn
                                  omega
        exact ⟨h, by simp [this]⟩
      · exact fun h => h.1)
    ⟨by simp, fun j oj _ hl => (by rw [getD_replicate_false] at hl; cases hl), fun t _ ht => getD_in (by simpa using ht) (getD_replicate_false _ _)⟩
    ⟨by rw [List.map_congr_left (g := fun _ => false) (fun i _ => getD_replicate_false _ _)]; exact hC, rfl, rfl, fun _ _ => rfl, fun t ht => tbl_out a t _ _ rfl (T _) (fun hmem => by
      rw [hTd] at hmem
      have hd : ((l.toArray.toList.take n).filterMap (·.dst)) = ds := by
        simp only [gOkB, Bool.and_eq_true, decide_eq_true_eq] at hB
        exact hB.1.1.1.2
      rw [← hd] at hmem
      obtain ⟨o, ho, hdo⟩ := List.mem_filterMap.1 hmem
      obtain ⟨i, hi⟩ := List.mem_iff_getElem?.1 ho
      have hin : i < n := by
        rcases Nat.lt_or_ge i n with h | h
        · exact h
        · rw [List.getElem?_eq_none (by simp; omega)] at hi; cases hi
      rw [List.getElem?_take_of_lt hin] at hi
      have hil : i < l.length := by
        rcases Nat.lt_or_ge i l.length with h | h
        · exact h
        · rw [List.getElem?_eq_none h] at hi; cases hi
      exact ht i o hin (by simpa using hi) (by simp [hil]) hdo)⟩
  rwa [show n + (l.toArray.size - n) = l.toArray.size by omega] at this
end
end Go.Proofs.YtpcjdllijkjdkaaGreatDoor

/- Likewise, where the region lays several blocks of its own: the slots that hold them are told apart. -/
set_option linter.unusedVariables false
set_option linter.unusedSimpArgs false
set_option maxRecDepth 8000
namespace Go.Proofs.YtpcjdllijkjdkaaGreatDoor
open Go.RowKit Plain

/-- The blocks that the slots fs hold are there, and no two are the same. -/
def apart (fs : List Nat) (e : Operand → Value) (w : World) : Prop :=
  (∀ x ∈ fs, ∀ b, e (.tmp x) = .pointer (some ⟨b, 0, none⟩) → b < w.heap.size) ∧ ∀ x ∈ fs, ∀ y ∈ fs, x ≠ y → ∀ b, e (.tmp x) = .pointer (some ⟨b, 0, none⟩) → e (.tmp y) ≠ .pointer (some ⟨b, 0, none⟩)
section
variable {P : Program} {ops : Array Oper} {n : Nat} {a : Act} {T : List Bool → List (Nat × SlotIs)} {C : List Bool → World → Prop} {Q : Exit → Act → World → Prop} {ss : List Nat} {fs : List Nat}

end
end Go.Proofs.YtpcjdllijkjdkaaGreatDoor

/- Contracts: mode.Is, Grows, Rest; the document's Is, Grows, Rest. -/
set_option linter.unusedVariables false
set_option linter.unusedSimpArgs false
set_option maxRecDepth 8000
namespace Go.Proofs.YtpcjdllijkjdkaaGreatDoor
open Go.RowKit Plain

def isM (m : Int) : Bool := decide (1 ≤ m) && decide (m ≤ 5)
/-- Is a number rounded up? -/
def growN (m : Int) (neg odd : Bool) (r : Int) : Bool :=
  if r < 1 ∨ 3 < r then false else if m = 1 then (decide (r = 3) || (decide (r = 2) && odd)) else if m = 2 then decide (2 ≤ r) else if m = 4 then !neg else if m = 5 then neg else false

theorem modeIs_any (m : Int) (w : World) : Calls Tryz.prog 16 #[.int .i64 m] w fun e w' => e = .returned (.bool (isM m)) ∧ w' = w := by
  by_cases h1 : 1 ≤ m
  · by_cases h2 : m ≤ 5
    · rw [show isM m = true by unfold isM; rw [decide_eq_true h1, decide_eq_true h2]; rfl]
      go_enter Tryz.func16, Tryz.ntmps16
      go_wp2
      go_ret
      exact ⟨rfl, rfl⟩
    · rw [show isM m = false by unfold isM; rw [decide_eq_true h1, decide_eq_false h2]; rfl]
      go_enter Tryz.func16, Tryz.ntmps16
      go_wp2
      go_ret
      exact ⟨rfl, rfl⟩
  · rw [show isM m = false by unfold isM; rw [decide_eq_false h1]; rfl]
    go_enter Tryz.func16, Tryz.ntmps16
    go_wp2
    go_ret
    exact ⟨rfl, rfl⟩

theorem refIs8_any (m : Int) (w : World) : Calls Tryz.prog 6 #[.int .i64 m] w fun e w' => e = .returned (.bool (isM m)) ∧ w' = w := by
  by_cases h1 : 1 ≤ m
  · by_cases h2 : m ≤ 5
    · rw [show isM m = true by unfold isM; rw [decide_eq_true h1, decide_eq_true h2]; rfl]
      go_enter Tryz.func6, Tryz.ntmps6
      go_wp2
      go_ret
      exact ⟨rfl, rfl⟩
    · rw [show isM m = false by unfold isM; rw [decide_eq_true h1, decide_eq_false h2]; rfl]
      go_enter Tryz.func6, Tryz.ntmps6
      go_wp2
      go_ret
      exact ⟨rfl, rfl⟩
  · rw [show isM m = false by unfold isM; rw [decide_eq_false h1]; rfl]
    go_enter Tryz.func6, Tryz.ntmps6
    go_wp2
    go_ret
    exact ⟨rfl, rfl⟩

theorem refGrows8_any (m : Int) (neg odd : Bool) (r : Int) (w : World) : Calls Tryz.prog 64 #[.int .i64 m, .bool neg, .bool odd, .int .i64 r] w fun e w' => e = .returned (.bool (growN m neg odd r)) ∧ w' = w := by
  by_cases h1 : r < 1
  · rw [show growN m neg odd r = false from if_pos (.inl h1)]
    go_enter Tryz.func64, Tryz.ntmps64
    go_wp2
    go_ret
    exact ⟨rfl, rfl⟩
  by_cases h2 : 3 < r
  · rw [show growN m neg odd r = false from if_pos (.inr h2)]
    go_enter Tryz.func64, Tryz.ntmps64
    go_wp2
    go_ret
    exact ⟨rfl, rfl⟩
  have h3 : ¬ (r < 1 ∨ 3 < r) := by omega
  unfold growN
  rw [if_neg h3]
  have hr : r = 1 ∨ r = 2 ∨ r = 3 := by omega
  clear h1 h2 h3
  by_cases m1 : m = 1
  · subst m1
    rcases hr with rfl | rfl | rfl
    · go_enter Tryz.func64, Tryz.ntmps64
      go_wp2
      go_ret
      exact ⟨rfl, rfl⟩
    · cases odd
      · go_enter Tryz.func64, Tryz.ntmps64
        go_wp2
        go_ret
        exact ⟨rfl, rfl⟩
      · go_enter Tryz.func64, Tryz.ntmps64
        go_wp2
        go_ret
        exact ⟨rfl, rfl⟩
    · go_enter Tryz.func64, Tryz.ntmps64
      go_wp2
      go_ret
      exact ⟨rfl, rfl⟩
  rw [if_neg m1]
  by_cases m2 : m = 2
  · subst m2
    rcases hr with rfl | rfl | rfl
    all_goals
      go_enter Tryz.func64, Tryz.ntmps64
      go_wp2
      go_ret
      exact ⟨rfl, rfl⟩
  rw [if_neg m2]
  by_cases m4 : m = 4
  · subst m4
    rcases hr with rfl | rfl | rfl
    all_goals
      go_enter Tryz.func64, Tryz.ntmps64
      go_wp2
      go_ret
      exact ⟨rfl, rfl⟩
  rw [if_neg m4]
  by_cases m5 : m = 5
  · subst m5
    rcases hr with rfl | rfl | rfl
    all_goals
      go_enter Tryz.func64, Tryz.ntmps64
      go_wp2
      go_ret
      exact ⟨rfl, rfl⟩
  rw [if_neg m5]
  rcases hr with rfl | rfl | rfl
  all_goals
    go_enter Tryz.func64, Tryz.ntmps64
    go_wp2
    go_ret
    exact ⟨rfl, rfl⟩

set_option maxHeartbeats 1000000 in
theorem growth_any (w : World) : Calls Tryz.prog 81 #[] w fun e w' => e = .returned (.agg #[.func (.func 101) #[] #[], .func (.func 102) #[] #[], .func (.func 103) #[] #[], .func (.func 104) #[] #[], .func (.func 105) #[] #[]]) ∧ Below w.heap.size w w' := by
  go_enter Tryz.func81, Tryz.ntmps81
  go_wp2
  exact bodyPost_ret (v := .agg #[.func (.func 101) #[] #[], .func (.func 102) #[] #[], .func (.func 103) #[] #[], .func (.func 104) #[] #[], .func (.func 105) #[] #[]]) (by simp [results, Tryz.results81, go_sem]) rfl ⟨rfl, below_allocs _ _⟩

end Go.Proofs.YtpcjdllijkjdkaaGreatDoor

/- Contracts: mode.Grows, Rest; the document's Rest. -/
set_option linter.unusedVariables false
set_option linter.unusedSimpArgs false
set_option maxRecDepth 8000
namespace Go.Proofs.YtpcjdllijkjdkaaGreatDoor
open Go.RowKit Plain

/-- What is cut off: none, below a half, a half, above. -/
def restN (s n : Nat) (more : Bool) : Nat :=
  if s % 2 ^ n = 0 ∧ more = false then 0 else if 2 * (s % 2 ^ n) < 2 ^ n then 1 else if 2 * (s % 2 ^ n) = 2 ^ n ∧ more = false then 2 else 3
def restB (first others : Bool) : Nat := bif first then (bif others then 3 else 2) else (bif others then 1 else 0)
theorem restN_zero (s : Nat) (more : Bool) : restN s 0 more = restB false more := by
  unfold restN restB
  rw [Nat.pow_zero, Nat.mod_one]
  cases more <;> rfl
theorem restN_succ (s k : Nat) (more : Bool) : restN s (k + 1) more = restB (s / 2 ^ k % 2 == 1) (!decide (s % 2 ^ k = 0) || more) := by
  have h1 := Nat.mod_pow_succ (b := 2) (k := k) (x := s)
  have h2 : s % 2 ^ k < 2 ^ k := Nat.mod_lt _ (Nat.two_pow_pos k)
  have h3 : s / 2 ^ k % 2 < 2 := Nat.mod_lt _ (by decide)
  have h4 : 2 ^ (k + 1) = 2 * 2 ^ k := by rw [Nat.pow_succ, Nat.mul_comm]
  unfold restN
  rw [h1, h4]
  generalize s / 2 ^ k % 2 = b at *
  generalize s % 2 ^ k = r at *
  generalize 2 ^ k = q at *
  have hb : b = 0 ∨ b = 1 := by omega
  rcases hb with rfl | rfl
  · rw [Nat.mul_zero, Nat.add_zero]
    by_cases hr : r = 0
    · subst hr
      cases more
      · rfl
      · rw [if_neg (fun h => Bool.noConfusion h.2), if_pos (by omega)]; rfl
    · rw [if_neg (fun h => hr h.1), if_pos (by omega), decide_eq_false hr]; rfl
  · rw [Nat.mul_one]
    by_cases hr : r = 0
    · subst hr
      cases more
      · rw [if_neg (fun h => by omega), if_neg (by omega), if_pos ⟨by omega, rfl⟩]; rfl
      · rw [if_neg (fun h => Bool.noConfusion h.2), if_neg (by omega), if_neg (fun h => Bool.noConfusion h.2)]; rfl
    · rw [if_neg (fun h => by omega), if_neg (by omega), if_neg (fun h => by omega), decide_eq_false hr]
      cases more <;> rfl
theorem lost_eq (s k kk : Nat) (hs : s < QQ) (h : kk = min k 512) : decide (s / 2 ^ kk * 2 ^ kk = s) = decide (s % 2 ^ k = 0) := by
  rw [decide_eq_decide]
  by_cases hk : k ≤ 512
  · rw [h, Nat.min_eq_left hk]
    have := Nat.div_add_mod s (2 ^ k)
    rw [Nat.mul_comm] at this
    omega
  · have hq := qq_pow kk (by omega)
    have h1 : s < 2 ^ k := Nat.lt_of_lt_of_le hs (Nat.le_trans (Nat.le_of_eq hq.symm) (Nat.pow_le_pow_right (by decide) (by omega)))
    have h2 : s / 2 ^ kk = 0 := Nat.div_eq_of_lt (Nat.lt_of_lt_of_le hs (Nat.le_of_eq hq.symm))
    rw [h2, Nat.mod_eq_of_lt h1, Nat.zero_mul]
    exact ⟨fun h => h.symm, fun h => h.symm⟩

set_option maxHeartbeats 1000000 in
theorem modeRest_low (a : Nat) (n : Int) (hn : ¬ 0 < n) (more : Bool) (w : World) : Calls Tryz.prog 79 #[.agg #[.int .u64 (dgl (a) 0 : Nat), .int .u64 (dgl (a) 1 : Nat), .int .u64 (dgl (a) 2 : Nat), .int .u64 (dgl (a) 3 : Nat), .int .u64 (dgl (a) 4 : Nat), .int .u64 (dgl (a) 5 : Nat), .int .u64 (dgl (a) 6 : Nat), .int .u64 (dgl (a) 7 : Nat)], .int .i64 n, .bool more] w fun e w' => e = .returned (.int .i64 ((restB false more : Nat) : Int)) ∧ Below w.heap.size w w' := by
  cases more
  all_goals
    go_enter Tryz.func79, Tryz.ntmps79
    go_wp2
    go_ret
    exact ⟨rfl, below_allocs _ _⟩

set_option maxHeartbeats 1000000 in
theorem modeRest_walk (a q : Nat) (n : Int) (more b lost : Bool) (hn : 0 < n) (hn1 : n ≤ 9223372036854775807)
    (HS : Hid (∀ w, Calls Tryz.prog 78 #[.agg #[.int .u64 (dgl (a) 0 : Nat), .int .u64 (dgl (a) 1 : Nat), .int .u64 (dgl (a) 2 : Nat), .int .u64 (dgl (a) 3 : Nat), .int .u64 (dgl (a) 4 : Nat), .int .u64 (dgl (a) 5 : Nat), .int .u64 (dgl (a) 6 : Nat), .int .u64 (dgl (a) 7 : Nat)], .int .i64 (n - 1)] w fun e w' => e = .returned (.tuple #[.agg #[.int .u64 (dgl (q) 0 : Nat), .int .u64 (dgl (q) 1 : Nat), .int .u64 (dgl (q) 2 : Nat), .int .u64 (dgl (q) 3 : Nat), .int .u64 (dgl (q) 4 : Nat), .int .u64 (dgl (q) 5 : Nat), .int .u64 (dgl (q) 6 : Nat), .int .u64 (dgl (q) 7 : Nat)], .bool lost]) ∧ Below w.heap.size w w'))
    (HT : Hid (∀ w, Calls Tryz.prog 80 #[.agg #[.int .u64 (dgl (a) 0 : Nat), .int .u64 (dgl (a) 1 : Nat), .int .u64 (dgl (a) 2 : Nat), .int .u64 (dgl (a) 3 : Nat), .int .u64 (dgl (a) 4 : Nat), .int .u64 (dgl (a) 5 : Nat), .int .u64 (dgl (a) 6 : Nat), .int .u64 (dgl (a) 7 : Nat)], .int .i64 (n - 1)] w fun e w' => e = .returned (.bool b) ∧ Below w.heap.size w w')) (w : World) :
    Calls Tryz.prog 79 #[.agg #[.int .u64 (dgl (a) 0 : Nat), .int .u64 (dgl (a) 1 : Nat), .int .u64 (dgl (a) 2 : Nat), .int .u64 (dgl (a) 3 : Nat), .int .u64 (dgl (a) 4 : Nat), .int .u64 (dgl (a) 5 : Nat), .int .u64 (dgl (a) 6 : Nat), .int .u64 (dgl (a) 7 : Nat)], .int .i64 n, .bool more] w fun e w' => e = .returned (.int .i64 ((restB b (lost || more) : Nat) : Int)) ∧ Below w.heap.size w w' := by
  have HL := hide (liesF_new w (dgl a) 25)
  have HB := hide (below_allocs w (.cells #[.int .u64 (dgl (a) 0 : Nat), .int .u64 (dgl (a) 1 : Nat), .int .u64 (dgl (a) 2 : Nat), .int .u64 (dgl (a) 3 : Nat), .int .u64 (dgl (a) 4 : Nat), .int .u64 (dgl (a) 5 : Nat), .int .u64 (dgl (a) 6 : Nat), .int .u64 (dgl (a) 7 : Nat)] 25))
  go_enter Tryz.func79, Tryz.ntmps79
  have hl := HL.out.1
  go_wp2_with fail
  refine (HS.out _).mono ?_
  rintro e w1 ⟨rfl, hb1⟩
  replace HL := hide (HL.out.below hb1)
  replace HB := hide (below_trans HB.out hb1)
  clear hb1 hl
  go_upto_region 4 with fail
  refine wp_gen (fun W => LiesF W w.heap.size (dgl a) ∧ Below w.heap.size w W) ⟨HL.out.below (below_allocs _ _), below_trans HB.out (below_allocs _ _)⟩ ?_
  clear HL HB
  rintro W1 ⟨h1, h2⟩
  have HB := hide h2
  have hl := h1.1
  clear h1 h2
  go_wp2_with fail
  refine (HT.out _).mono ?_
  rintro e w2 ⟨rfl, hb2⟩
  replace HB := hide (below_trans HB.out hb2)
  clear hb2 hl
  cases b <;> cases lost <;> cases more
  all_goals
    go_wp2
    go_ret
    exact ⟨rfl, HB.out⟩

theorem modeRest_any (a : Nat) (ha : a < QQ) (n : Int) (hn1 : n ≤ 9223372036854775807) (more : Bool) (w : World) : Calls Tryz.prog 79 #[.agg #[.int .u64 (dgl (a) 0 : Nat), .int .u64 (dgl (a) 1 : Nat), .int .u64 (dgl (a) 2 : Nat), .int .u64 (dgl (a) 3 : Nat), .int .u64 (dgl (a) 4 : Nat), .int .u64 (dgl (a) 5 : Nat), .int .u64 (dgl (a) 6 : Nat), .int .u64 (dgl (a) 7 : Nat)], .int .i64 n, .bool more] w fun e w' => e = .returned (.int .i64 ((restN a n.toNat more : Nat) : Int)) ∧ Below w.heap.size w w' := by
  by_cases hn : 0 < n
  · obtain ⟨k, hk⟩ : ∃ k : Nat, n - 1 = (k : Int) := ⟨(n - 1).toNat, by omega⟩
    rw [show n.toNat = k + 1 by omega, restN_succ, ← lost_eq a k (min k 512) ha rfl]
    have h2 := fun w => wideBit_any a (n - 1) ha (by omega) (by omega) w
    rw [show (n - 1).toNat = k by omega] at h2
    exact modeRest_walk a _ n more _ _ hn hn1 (fun w => wideShr_any a (min k 512) (n - 1) (by unfold roomI; omega) ha w) h2 w
  · rw [show n.toNat = 0 by omega, restN_zero]
    exact modeRest_low a n hn more w

theorem growC1_any (neg odd : Bool) (r : Int) (hr : r = 1 ∨ r = 2 ∨ r = 3) (w : World) : Calls Tryz.prog 101 #[.bool neg, .bool odd, .int .i64 r] w fun e w' => e = .returned (.bool (growN 1 neg odd r)) ∧ w' = w := by
  rcases hr with rfl | rfl | rfl <;> cases neg <;> cases odd
  all_goals
    go_enter Tryz.func101, Tryz.ntmps101
    go_wp2
    go_ret
    exact ⟨rfl, rfl⟩

theorem growC2_any (neg odd : Bool) (r : Int) (hr : r = 1 ∨ r = 2 ∨ r = 3) (w : World) : Calls Tryz.prog 102 #[.bool neg, .bool odd, .int .i64 r] w fun e w' => e = .returned (.bool (growN 2 neg odd r)) ∧ w' = w := by
  rcases hr with rfl | rfl | rfl <;> cases neg <;> cases odd
  all_goals
    go_enter Tryz.func102, Tryz.ntmps102
    go_wp2
    go_ret
    exact ⟨rfl, rfl⟩

theorem growC3_any (neg odd : Bool) (r : Int) (hr : r = 1 ∨ r = 2 ∨ r = 3) (w : World) : Calls Tryz.prog 103 #[.bool neg, .bool odd, .int .i64 r] w fun e w' => e = .returned (.bool (growN 3 neg odd r)) ∧ w' = w := by
  rcases hr with rfl | rfl | rfl <;> cases neg <;> cases odd
  all_goals
    go_enter Tryz.func103, Tryz.ntmps103
    go_wp2
    go_ret
    exact ⟨rfl, rfl⟩

theorem growC4_any (neg odd : Bool) (r : Int) (hr : r = 1 ∨ r = 2 ∨ r = 3) (w : World) : Calls Tryz.prog 104 #[.bool neg, .bool odd, .int .i64 r] w fun e w' => e = .returned (.bool (growN 4 neg odd r)) ∧ w' = w := by
  rcases hr with rfl | rfl | rfl <;> cases neg <;> cases odd
  all_goals
    go_enter Tryz.func104, Tryz.ntmps104
    go_wp2
    go_ret
    exact ⟨rfl, rfl⟩

theorem growC5_any (neg odd : Bool) (r : Int) (hr : r = 1 ∨ r = 2 ∨ r = 3) (w : World) : Calls Tryz.prog 105 #[.bool neg, .bool odd, .int .i64 r] w fun e w' => e = .returned (.bool (growN 5 neg odd r)) ∧ w' = w := by
  rcases hr with rfl | rfl | rfl <;> cases neg <;> cases odd
  all_goals
    go_enter Tryz.func105, Tryz.ntmps105
    go_wp2
    go_ret
    exact ⟨rfl, rfl⟩

theorem growN_out (m : Int) (neg odd : Bool) (r : Int) (h : isM m = false) : growN m neg odd r = false := by
  unfold isM at h
  rw [Bool.and_eq_false_iff, decide_eq_false_iff_not, decide_eq_false_iff_not] at h
  unfold growN
  split
  · rfl
  · rw [if_neg (by omega), if_neg (by omega), if_neg (by omega), if_neg (by omega)]

set_option maxHeartbeats 1000000 in
theorem modeGrows_no (m : Int) (neg odd : Bool) (r : Int) (h : isM m = false ∨ r ≤ 0 ∨ 3 < r) (w : World) : Calls Tryz.prog 50 #[.int .i64 m, .bool neg, .bool odd, .int .i64 r] w fun e w' => e = .returned (.bool false) ∧ Below w.heap.size w w' := by
  have HM := hide (fun w => modeIs_any m w)
  by_cases hm : isM m = false
  · rw [hm] at HM
    go_enter Tryz.func50, Tryz.ntmps50
    go_wp2_with fail
    refine (HM.out _).mono ?_
    rintro e w1 ⟨rfl, hw⟩
    subst w1
    go_wp2
    go_ret
    exact ⟨rfl, Below.refl _ _⟩
  · rw [show isM m = true by simpa using hm] at HM
    by_cases hr : r ≤ 0
    · go_enter Tryz.func50, Tryz.ntmps50
      go_wp2_with fail
      refine (HM.out _).mono ?_
      rintro e w1 ⟨rfl, hw⟩
      subst w1
      go_wp2
      go_ret
      exact ⟨rfl, Below.refl _ _⟩
    · have hr2 : 3 < r := by
        rcases h with h | h | h
        · exact absurd h hm
        · exact absurd h hr
        · exact h
      clear h hm
      go_enter Tryz.func50, Tryz.ntmps50
      go_wp2_with fail
      refine (HM.out _).mono ?_
      rintro e w1 ⟨rfl, hw⟩
      subst w1
      go_wp2
      go_ret
      exact ⟨rfl, Below.refl _ _⟩

set_option maxHeartbeats 1000000 in
theorem modeGrows_1 (neg odd : Bool) (r : Int) (h1 : ¬ r ≤ 0) (h2 : ¬ 3 < r) (w : World) : Calls Tryz.prog 50 #[.int .i64 1, .bool neg, .bool odd, .int .i64 r] w fun e w' => e = .returned (.bool (growN 1 neg odd r)) ∧ Below w.heap.size w w' := by
  have HM := hide (fun w => modeIs_any 1 w)
  rw [show isM 1 = true by decide] at HM
  have HG := hide (fun w => growC1_any neg odd r (by omega) w)
  have ix : ∀ w : World, (Instr.index 114 (.agg #[.func (.func 101) #[] #[], .func (.func 102) #[] #[], .func (.func 103) #[] #[], .func (.func 104) #[] #[], .func (.func 105) #[] #[]]) (.int .i64 0)).run Tryz.prog w = .ok (.func (.func 101) #[] #[]) w := fun _ => by kernel_rfl
  go_enter Tryz.func50, Tryz.ntmps50
  go_wp2_with fail
  refine (HM.out _).mono ?_
  rintro e w1 ⟨rfl, hw⟩
  subst w1
  go_wp2_with fail
  refine (growth_any _).mono ?_
  rintro e w1 ⟨rfl, hb1⟩
  have HB := hide hb1
  clear hb1
  go_wp2_with fail
  refine (HG.out _).mono ?_
  rintro e w2 ⟨rfl, hw⟩
  subst w2
  go_wp2
  go_ret
  exact ⟨rfl, HB.out⟩

set_option maxHeartbeats 1000000 in
theorem modeGrows_2 (neg odd : Bool) (r : Int) (h1 : ¬ r ≤ 0) (h2 : ¬ 3 < r) (w : World) : Calls Tryz.prog 50 #[.int .i64 2, .bool neg, .bool odd, .int .i64 r] w fun e w' => e = .returned (.bool (growN 2 neg odd r)) ∧ Below w.heap.size w w' := by
  have HM := hide (fun w => modeIs_any 2 w)
  rw [show isM 2 = true by decide] at HM
  have HG := hide (fun w => growC2_any neg odd r (by omega) w)
  have ix : ∀ w : World, (Instr.index 114 (.agg #[.func (.func 101) #[] #[], .func (.func 102) #[] #[], .func (.func 103) #[] #[], .func (.func 104) #[] #[], .func (.func 105) #[] #[]]) (.int .i64 1)).run Tryz.prog w = .ok (.func (.func 102) #[] #[]) w := fun _ => by kernel_rfl
  go_enter Tryz.func50, Tryz.ntmps50
  go_wp2_with fail
  refine (HM.out _).mono ?_
  rintro e w1 ⟨rfl, hw⟩
  subst w1
  go_wp2_with fail
  refine (growth_any _).mono ?_
  rintro e w1 ⟨rfl, hb1⟩
  have HB := hide hb1
  clear hb1
  go_wp2_with fail
  refine (HG.out _).mono ?_
  rintro e w2 ⟨rfl, hw⟩
  subst w2
  go_wp2
  go_ret
  exact ⟨rfl, HB.out⟩

set_option maxHeartbeats 1000000 in
theorem modeGrows_3 (neg odd : Bool) (r : Int) (h1 : ¬ r ≤ 0) (h2 : ¬ 3 < r) (w : World) : Calls Tryz.prog 50 #[.int .i64 3, .bool neg, .bool odd, .int .i64 r] w fun e w' => e = .returned (.bool (growN 3 neg odd r)) ∧ Below w.heap.size w w' := by
  have HM := hide (fun w => modeIs_any 3 w)
  rw [show isM 3 = true by decide] at HM
  have HG := hide (fun w => growC3_any neg odd r (by omega) w)
  have ix : ∀ w : World, (Instr.index 114 (.agg #[.func (.func 101) #[] #[], .func (.func 102) #[] #[], .func (.func 103) #[] #[], .func (.func 104) #[] #[], .func (.func 105) #[] #[]]) (.int .i64 2)).run Tryz.prog w = .ok (.func (.func 103) #[] #[]) w := fun _ => by kernel_rfl
  go_enter Tryz.func50, Tryz.ntmps50
  go_wp2_with fail
  refine (HM.out _).mono ?_
  rintro e w1 ⟨rfl, hw⟩
  subst w1
  go_wp2_with fail
  refine (growth_any _).mono ?_
  rintro e w1 ⟨rfl, hb1⟩
  have HB := hide hb1
  clear hb1
  go_wp2_with fail
  refine (HG.out _).mono ?_
  rintro e w2 ⟨rfl, hw⟩
  subst w2
  go_wp2
  go_ret
  exact ⟨rfl, HB.out⟩

set_option maxHeartbeats 1000000 in
theorem modeGrows_4 (neg odd : Bool) (r : Int) (h1 : ¬ r ≤ 0) (h2 : ¬ 3 < r) (w : World) : Calls Tryz.prog 50 #[.int .i64 4, .bool neg, .bool odd, .int .i64 r] w fun e w' => e = .returned (.bool (growN 4 neg odd r)) ∧ Below w.heap.size w w' := by
  have HM := hide (fun w => modeIs_any 4 w)
  rw [show isM 4 = true by decide] at HM
  have HG := hide (fun w => growC4_any neg odd r (by omega) w)
  have ix : ∀ w : World, (Instr.index 114 (.agg #[.func (.func 101) #[] #[], .func (.func 102) #[] #[], .func (.func 103) #[] #[], .func (.func 104) #[] #[], .func (.func 105) #[] #[]]) (.int .i64 3)).run Tryz.prog w = .ok (.func (.func 104) #[] #[]) w := fun _ => by kernel_rfl
  go_enter Tryz.func50, Tryz.ntmps50
  go_wp2_with fail
  refine (HM.out _).mono ?_
  rintro e w1 ⟨rfl, hw⟩
  subst w1
  go_wp2_with fail
  refine (growth_any _).mono ?_
  rintro e w1 ⟨rfl, hb1⟩
  have HB := hide hb1
  clear hb1
  go_wp2_with fail
  refine (HG.out _).mono ?_
  rintro e w2 ⟨rfl, hw⟩
  subst w2
  go_wp2
  go_ret
  exact ⟨rfl, HB.out⟩

set_option maxHeartbeats 1000000 in
theorem modeGrows_5 (neg odd : Bool) (r : Int) (h1 : ¬ r ≤ 0) (h2 : ¬ 3 < r) (w : World) : Calls Tryz.prog 50 #[.int .i64 5, .bool neg, .bool odd, .int .i64 r] w fun e w' => e = .returned (.bool (growN 5 neg odd r)) ∧ Below w.heap.size w w' := by
  have HM := hide (fun w => modeIs_any 5 w)
  rw [show isM 5 = true by decide] at HM
  have HG := hide (fun w => growC5_any neg odd r (by omega) w)
  have ix : ∀ w : World, (Instr.index 114 (.agg #[.func (.func 101) #[] #[], .func (.func 102) #[] #[], .func (.func 103) #[] #[], .func (.func 104) #[] #[], .func (.func 105) #[] #[]]) (.int .i64 4)).run Tryz.prog w = .ok (.func (.func 105) #[] #[]) w := fun _ => by kernel_rfl
  go_enter Tryz.func50, Tryz.ntmps50
  go_wp2_with fail
  refine (HM.out _).mono ?_
  rintro e w1 ⟨rfl, hw⟩
  subst w1
  go_wp2_with fail
  refine (growth_any _).mono ?_
  rintro e w1 ⟨rfl, hb1⟩
  have HB := hide hb1
  clear hb1
  go_wp2_with fail
  refine (HG.out _).mono ?_
  rintro e w2 ⟨rfl, hw⟩
  subst w2
  go_wp2
  go_ret
  exact ⟨rfl, HB.out⟩

theorem modeGrows_any (m : Int) (neg odd : Bool) (r : Int) (w : World) : Calls Tryz.prog 50 #[.int .i64 m, .bool neg, .bool odd, .int .i64 r] w fun e w' => e = .returned (.bool (growN m neg odd r)) ∧ Below w.heap.size w w' := by
  by_cases hm : isM m = false
  · rw [growN_out m neg odd r hm]
    exact modeGrows_no m neg odd r (.inl hm) w
  by_cases h1 : r ≤ 0
  · rw [show growN m neg odd r = false from if_pos (.inl (by omega))]
    exact modeGrows_no m neg odd r (.inr (.inl h1)) w
  by_cases h2 : 3 < r
  · rw [show growN m neg odd r = false from if_pos (.inr h2)]
    exact modeGrows_no m neg odd r (.inr (.inr h2)) w
  have h5 : m = 1 ∨ m = 2 ∨ m = 3 ∨ m = 4 ∨ m = 5 := by
    unfold isM at hm
    rw [Bool.and_eq_false_iff, decide_eq_false_iff_not, decide_eq_false_iff_not] at hm
    omega
  rcases h5 with rfl | rfl | rfl | rfl | rfl
  · exact modeGrows_1 neg odd r h1 h2 w
  · exact modeGrows_2 neg odd r h1 h2 w
  · exact modeGrows_3 neg odd r h1 h2 w
  · exact modeGrows_4 neg odd r h1 h2 w
  · exact modeGrows_5 neg odd r h1 h2 w

end Go.Proofs.YtpcjdllijkjdkaaGreatDoor

/- Contracts: the document's Rest. -/
set_option linter.unusedVariables false
set_option linter.unusedSimpArgs false
set_option maxRecDepth 8000
namespace Go.Proofs.YtpcjdllijkjdkaaGreatDoor
open Go.RowKit Plain

end Go.Proofs.YtpcjdllijkjdkaaGreatDoor

/- Contracts: mode.Cut; the document's Cut. -/
set_option linter.unusedVariables false
set_option linter.unusedSimpArgs false
set_option maxRecDepth 8000
namespace Go.Proofs.YtpcjdllijkjdkaaGreatDoor
open Go.RowKit Plain

/-- Where Cut begins: the number, and the result. -/
structure CtSt (a : Nat) (w W : World) : Prop where
  la : LiesF W w.heap.size (dgl a)
  lr : LiesF W (w.heap.size + 1) (fun _ => 0)
  fr : ∀ i, W.frozen? ⟨w.heap.size + 1, i, none⟩ = false
  bel : Below w.heap.size w W
theorem CtSt.under {a : Nat} {w W W' : World} (h : CtSt a w W) {C : Nat} (hb : Below C W W') (hc : w.heap.size + 1 < C) : CtSt a w W' :=
  ⟨lies_box h.la hb (by omega), lies_box h.lr hb (by omega), fun i => (hb.frozen (p := ⟨w.heap.size + 1, i, none⟩) hc).trans (h.fr i), h.bel.trans (hb.mono (by omega))⟩
theorem CtSt.below {a : Nat} {w W W' : World} (h : CtSt a w W) (hb : Below W.heap.size W W') : CtSt a w W' := h.under hb h.lr.2
theorem ctSt_start (a : Nat) (w : World) : CtSt a w ((w.alloc (.cells #[.int .u64 (dgl (a) 0 : Nat), .int .u64 (dgl (a) 1 : Nat), .int .u64 (dgl (a) 2 : Nat), .int .u64 (dgl (a) 3 : Nat), .int .u64 (dgl (a) 4 : Nat), .int .u64 (dgl (a) 5 : Nat), .int .u64 (dgl (a) 6 : Nat), .int .u64 (dgl (a) 7 : Nat)] 25)).alloc (.cells #[.int .u64 0, .int .u64 0, .int .u64 0, .int .u64 0, .int .u64 0, .int .u64 0, .int .u64 0, .int .u64 0] 25)) := by
  have hl := (liesF_new w (dgl a) 25).alloc (.cells #[.int .u64 0, .int .u64 0, .int .u64 0, .int .u64 0, .int .u64 0, .int .u64 0, .int .u64 0, .int .u64 0] 25)
  have hr := liesF_new (w.alloc (.cells #[.int .u64 (dgl (a) 0 : Nat), .int .u64 (dgl (a) 1 : Nat), .int .u64 (dgl (a) 2 : Nat), .int .u64 (dgl (a) 3 : Nat), .int .u64 (dgl (a) 4 : Nat), .int .u64 (dgl (a) 5 : Nat), .int .u64 (dgl (a) 6 : Nat), .int .u64 (dgl (a) 7 : Nat)] 25)) (fun _ => 0) 25
  rw [World.size_alloc] at hr
  exact ⟨hl, hr, fun i => by simp [go_sem], below_trans (below_allocs _ _) (below_allocs _ _)⟩

set_option maxHeartbeats 1000000 in
theorem modeCut_keep (a q : Nat) (n m r : Int) (more neg lost od is : Bool)
    (HIS : Hid (((r : Int) != 0) = is))
    (HM : Hid (∀ w, Calls Tryz.prog 16 #[.int .i64 m] w fun e w' => e = .returned (.bool true) ∧ w' = w))
    (HS : Hid (∀ w, Calls Tryz.prog 78 #[.agg #[.int .u64 (dgl (a) 0 : Nat), .int .u64 (dgl (a) 1 : Nat), .int .u64 (dgl (a) 2 : Nat), .int .u64 (dgl (a) 3 : Nat), .int .u64 (dgl (a) 4 : Nat), .int .u64 (dgl (a) 5 : Nat), .int .u64 (dgl (a) 6 : Nat), .int .u64 (dgl (a) 7 : Nat)], .int .i64 n] w fun e w' => e = .returned (.tuple #[.agg #[.int .u64 (dgl (q) 0 : Nat), .int .u64 (dgl (q) 1 : Nat), .int .u64 (dgl (q) 2 : Nat), .int .u64 (dgl (q) 3 : Nat), .int .u64 (dgl (q) 4 : Nat), .int .u64 (dgl (q) 5 : Nat), .int .u64 (dgl (q) 6 : Nat), .int .u64 (dgl (q) 7 : Nat)], .bool lost]) ∧ Below w.heap.size w w'))
    (HR : Hid (∀ w, Calls Tryz.prog 79 #[.agg #[.int .u64 (dgl (a) 0 : Nat), .int .u64 (dgl (a) 1 : Nat), .int .u64 (dgl (a) 2 : Nat), .int .u64 (dgl (a) 3 : Nat), .int .u64 (dgl (a) 4 : Nat), .int .u64 (dgl (a) 5 : Nat), .int .u64 (dgl (a) 6 : Nat), .int .u64 (dgl (a) 7 : Nat)], .int .i64 n, .bool more] w fun e w' => e = .returned (.int .i64 r) ∧ Below w.heap.size w w'))
    (HBT : Hid (∀ w, Calls Tryz.prog 80 #[.agg #[.int .u64 (dgl (q) 0 : Nat), .int .u64 (dgl (q) 1 : Nat), .int .u64 (dgl (q) 2 : Nat), .int .u64 (dgl (q) 3 : Nat), .int .u64 (dgl (q) 4 : Nat), .int .u64 (dgl (q) 5 : Nat), .int .u64 (dgl (q) 6 : Nat), .int .u64 (dgl (q) 7 : Nat)], .int .i64 0] w fun e w' => e = .returned (.bool od) ∧ Below w.heap.size w w'))
    (HG : Hid (∀ w, Calls Tryz.prog 50 #[.int .i64 m, .bool neg, .bool od, .int .i64 r] w fun e w' => e = .returned (.bool false) ∧ Below w.heap.size w w')) (w : World) : Calls Tryz.prog 48 #[.agg #[.int .u64 (dgl (a) 0 : Nat), .int .u64 (dgl (a) 1 : Nat), .int .u64 (dgl (a) 2 : Nat), .int .u64 (dgl (a) 3 : Nat), .int .u64 (dgl (a) 4 : Nat), .int .u64 (dgl (a) 5 : Nat), .int .u64 (dgl (a) 6 : Nat), .int .u64 (dgl (a) 7 : Nat)], .int .i64 n, .bool more, .int .i64 m, .bool neg] w fun e w' => e = .returned (.tuple #[.agg #[.int .u64 (dgl (q) 0 : Nat), .int .u64 (dgl (q) 1 : Nat), .int .u64 (dgl (q) 2 : Nat), .int .u64 (dgl (q) 3 : Nat), .int .u64 (dgl (q) 4 : Nat), .int .u64 (dgl (q) 5 : Nat), .int .u64 (dgl (q) 6 : Nat), .int .u64 (dgl (q) 7 : Nat)], .bool is]) ∧ Below w.heap.size w w' := by
  have HST := hide (ctSt_start a w)
  go_enter Tryz.func48, Tryz.ntmps48
  go_wp2_with fail
  refine (HM.out _).mono ?_
  rintro e w1 ⟨rfl, hw⟩
  subst w1
  go_upto_region 3 with fail
  refine wp_gen (fun W => CtSt a w W) HST.out ?_
  clear HST
  rintro W1 h1
  have hc := h1.la.1
  have HST := hide h1
  clear h1
  go_wp2_with fail
  refine (HS.out _).mono ?_
  rintro e w2 ⟨rfl, hb2⟩
  replace HST := hide (HST.out.below hb2)
  clear hb2 hc
  go_upto_region 4 with fail
  refine wp_gen (fun W => ∃ p, CtSt a w W ∧ LiesF W p (dgl q) ∧ (∀ i, W.frozen? ⟨p, i, none⟩ = false) ∧ w.heap.size + 1 < p ∧ p = w2.heap.size) ⟨_, HST.out.below (below_allocs _ _), liesF_new _ _ _, fun i => by simp [go_sem], HST.out.lr.2, rfl⟩ ?_
  clear HST
  rintro W2 ⟨p, h1, h2, h3, h4, h5⟩
  rw [← h5]
  have HST := hide h1
  have HQ := hide h2
  have HZ := hide h3
  have HP := hide h4
  have hc := HST.out.la.1
  clear h1 h2 h3 h4 h5
  go_wp2_with fail
  refine (HR.out _).mono ?_
  rintro e w3 ⟨rfl, hb3⟩
  replace HZ := hide (show ∀ i, w3.frozen? ⟨p, i, none⟩ = false from fun i => (hb3.frozen (p := ⟨p, i, none⟩) HQ.out.2).trans (HZ.out i))
  replace HST := hide (HST.out.below hb3)
  replace HQ := hide (HQ.out.below hb3)
  clear hb3 hc
  have hc := HQ.out.1
  go_wp2_with fail
  refine (HBT.out _).mono ?_
  rintro e w4 ⟨rfl, hb4⟩
  replace HZ := hide (show ∀ i, w4.frozen? ⟨p, i, none⟩ = false from fun i => (hb4.frozen (p := ⟨p, i, none⟩) HQ.out.2).trans (HZ.out i))
  replace HST := hide (HST.out.below hb4)
  replace HQ := hide (HQ.out.below hb4)
  clear hb4 hc
  go_wp2_with fail
  refine (HG.out _).mono ?_
  rintro e w5 ⟨rfl, hb5⟩
  replace HZ := hide (show ∀ i, w5.frozen? ⟨p, i, none⟩ = false from fun i => (hb5.frozen (p := ⟨p, i, none⟩) HQ.out.2).trans (HZ.out i))
  replace HST := hide (HST.out.below hb5)
  replace HQ := hide (HQ.out.below hb5)
  clear hb5
  have his := HIS.out
  have hc := HQ.out.1
  have hr := HST.out.lr.1
  have hrf := HST.out.fr
  have hl := HST.out.lr.2
  have HB := hide HST.out.bel
  clear HST HQ
  go_wp2
  exact bodyPost_ret (v := .tuple #[.agg #[.int .u64 (dgl (q) 0 : Nat), .int .u64 (dgl (q) 1 : Nat), .int .u64 (dgl (q) 2 : Nat), .int .u64 (dgl (q) 3 : Nat), .int .u64 (dgl (q) 4 : Nat), .int .u64 (dgl (q) 5 : Nat), .int .u64 (dgl (q) 6 : Nat), .int .u64 (dgl (q) 7 : Nat)], .bool is]) (by simp [results, Tryz.results48, go_sem, hr, hl]) rfl ⟨rfl, below_set8 HB.out _ (by omega) _ _ _ _ _ _ _ _⟩

set_option maxHeartbeats 1000000 in
theorem modeCut_grow (a q s : Nat) (n m r : Int) (more neg lost od is ov : Bool)
    (HIS : Hid (((r : Int) != 0) = is))
    (HM : Hid (∀ w, Calls Tryz.prog 16 #[.int .i64 m] w fun e w' => e = .returned (.bool true) ∧ w' = w))
    (HS : Hid (∀ w, Calls Tryz.prog 78 #[.agg #[.int .u64 (dgl (a) 0 : Nat), .int .u64 (dgl (a) 1 : Nat), .int .u64 (dgl (a) 2 : Nat), .int .u64 (dgl (a) 3 : Nat), .int .u64 (dgl (a) 4 : Nat), .int .u64 (dgl (a) 5 : Nat), .int .u64 (dgl (a) 6 : Nat), .int .u64 (dgl (a) 7 : Nat)], .int .i64 n] w fun e w' => e = .returned (.tuple #[.agg #[.int .u64 (dgl (q) 0 : Nat), .int .u64 (dgl (q) 1 : Nat), .int .u64 (dgl (q) 2 : Nat), .int .u64 (dgl (q) 3 : Nat), .int .u64 (dgl (q) 4 : Nat), .int .u64 (dgl (q) 5 : Nat), .int .u64 (dgl (q) 6 : Nat), .int .u64 (dgl (q) 7 : Nat)], .bool lost]) ∧ Below w.heap.size w w'))
    (HR : Hid (∀ w, Calls Tryz.prog 79 #[.agg #[.int .u64 (dgl (a) 0 : Nat), .int .u64 (dgl (a) 1 : Nat), .int .u64 (dgl (a) 2 : Nat), .int .u64 (dgl (a) 3 : Nat), .int .u64 (dgl (a) 4 : Nat), .int .u64 (dgl (a) 5 : Nat), .int .u64 (dgl (a) 6 : Nat), .int .u64 (dgl (a) 7 : Nat)], .int .i64 n, .bool more] w fun e w' => e = .returned (.int .i64 r) ∧ Below w.heap.size w w'))
    (HBT : Hid (∀ w, Calls Tryz.prog 80 #[.agg #[.int .u64 (dgl (q) 0 : Nat), .int .u64 (dgl (q) 1 : Nat), .int .u64 (dgl (q) 2 : Nat), .int .u64 (dgl (q) 3 : Nat), .int .u64 (dgl (q) 4 : Nat), .int .u64 (dgl (q) 5 : Nat), .int .u64 (dgl (q) 6 : Nat), .int .u64 (dgl (q) 7 : Nat)], .int .i64 0] w fun e w' => e = .returned (.bool od) ∧ Below w.heap.size w w'))
    (HG : Hid (∀ w, Calls Tryz.prog 50 #[.int .i64 m, .bool neg, .bool od, .int .i64 r] w fun e w' => e = .returned (.bool true) ∧ Below w.heap.size w w'))
    (HD1 : Hid (∀ i, i < 8 → dg [1] i = dgl 1 i))
    (HAD : Hid (∀ w, Calls Tryz.prog 73 #[.agg #[.int .u64 (dgl (q) 0 : Nat), .int .u64 (dgl (q) 1 : Nat), .int .u64 (dgl (q) 2 : Nat), .int .u64 (dgl (q) 3 : Nat), .int .u64 (dgl (q) 4 : Nat), .int .u64 (dgl (q) 5 : Nat), .int .u64 (dgl (q) 6 : Nat), .int .u64 (dgl (q) 7 : Nat)], .agg #[.int .u64 (dgl (1) 0 : Nat), .int .u64 (dgl (1) 1 : Nat), .int .u64 (dgl (1) 2 : Nat), .int .u64 (dgl (1) 3 : Nat), .int .u64 (dgl (1) 4 : Nat), .int .u64 (dgl (1) 5 : Nat), .int .u64 (dgl (1) 6 : Nat), .int .u64 (dgl (1) 7 : Nat)]] w fun e w' => e = .returned (.tuple #[.agg #[.int .u64 (dgl (s) 0 : Nat), .int .u64 (dgl (s) 1 : Nat), .int .u64 (dgl (s) 2 : Nat), .int .u64 (dgl (s) 3 : Nat), .int .u64 (dgl (s) 4 : Nat), .int .u64 (dgl (s) 5 : Nat), .int .u64 (dgl (s) 6 : Nat), .int .u64 (dgl (s) 7 : Nat)], .bool ov]) ∧ Below w.heap.size w w')) (w : World) : Calls Tryz.prog 48 #[.agg #[.int .u64 (dgl (a) 0 : Nat), .int .u64 (dgl (a) 1 : Nat), .int .u64 (dgl (a) 2 : Nat), .int .u64 (dgl (a) 3 : Nat), .int .u64 (dgl (a) 4 : Nat), .int .u64 (dgl (a) 5 : Nat), .int .u64 (dgl (a) 6 : Nat), .int .u64 (dgl (a) 7 : Nat)], .int .i64 n, .bool more, .int .i64 m, .bool neg] w fun e w' => e = .returned (.tuple #[.agg #[.int .u64 (dgl (s) 0 : Nat), .int .u64 (dgl (s) 1 : Nat), .int .u64 (dgl (s) 2 : Nat), .int .u64 (dgl (s) 3 : Nat), .int .u64 (dgl (s) 4 : Nat), .int .u64 (dgl (s) 5 : Nat), .int .u64 (dgl (s) 6 : Nat), .int .u64 (dgl (s) 7 : Nat)], .bool is]) ∧ Below w.heap.size w w' := by
  have HST := hide (ctSt_start a w)
  go_enter Tryz.func48, Tryz.ntmps48
  go_wp2_with fail
  refine (HM.out _).mono ?_
  rintro e w1 ⟨rfl, hw⟩
  subst w1
  go_upto_region 3 with fail
  refine wp_gen (fun W => CtSt a w W) HST.out ?_
  clear HST
  rintro W1 h1
  have hc := h1.la.1
  have HST := hide h1
  clear h1
  go_wp2_with fail
  refine (HS.out _).mono ?_
  rintro e w2 ⟨rfl, hb2⟩
  replace HST := hide (HST.out.below hb2)
  clear hb2 hc
  go_upto_region 4 with fail
  refine wp_gen (fun W => ∃ p, CtSt a w W ∧ LiesF W p (dgl q) ∧ (∀ i, W.frozen? ⟨p, i, none⟩ = false) ∧ w.heap.size + 1 < p ∧ p = w2.heap.size) ⟨_, HST.out.below (below_allocs _ _), liesF_new _ _ _, fun i => by simp [go_sem], HST.out.lr.2, rfl⟩ ?_
  clear HST
  rintro W2 ⟨p, h1, h2, h3, h4, h5⟩
  rw [← h5]
  have HST := hide h1
  have HQ := hide h2
  have HZ := hide h3
  have HP := hide h4
  have hc := HST.out.la.1
  clear h1 h2 h3 h4 h5
  go_wp2_with fail
  refine (HR.out _).mono ?_
  rintro e w3 ⟨rfl, hb3⟩
  replace HZ := hide (show ∀ i, w3.frozen? ⟨p, i, none⟩ = false from fun i => (hb3.frozen (p := ⟨p, i, none⟩) HQ.out.2).trans (HZ.out i))
  replace HST := hide (HST.out.below hb3)
  replace HQ := hide (HQ.out.below hb3)
  clear hb3 hc
  have hc := HQ.out.1
  go_wp2_with fail
  refine (HBT.out _).mono ?_
  rintro e w4 ⟨rfl, hb4⟩
  replace HZ := hide (show ∀ i, w4.frozen? ⟨p, i, none⟩ = false from fun i => (hb4.frozen (p := ⟨p, i, none⟩) HQ.out.2).trans (HZ.out i))
  replace HST := hide (HST.out.below hb4)
  replace HQ := hide (HQ.out.below hb4)
  clear hb4 hc
  go_wp2_with fail
  refine (HG.out _).mono ?_
  rintro e w5 ⟨rfl, hb5⟩
  replace HZ := hide (show ∀ i, w5.frozen? ⟨p, i, none⟩ = false from fun i => (hb5.frozen (p := ⟨p, i, none⟩) HQ.out.2).trans (HZ.out i))
  replace HST := hide (HST.out.below hb5)
  replace HQ := hide (HQ.out.below hb5)
  clear hb5
  go_upto_region 6 with fail
  refine wp_gen (fun W => CtSt a w W ∧ LiesF W p (dgl q) ∧ ∀ i, W.frozen? ⟨p, i, none⟩ = false) ⟨HST.out, HQ.out, HZ.out⟩ ?_
  clear HST HQ HZ
  rintro W6 ⟨h1, h2, h3⟩
  refine wp_region_storeK 8 [7] [36, 37, 38, 39, 35, 40, 41] (fun bs => [(36, .val (.agg #[.int .u64 (dgl (q) 0 : Nat), .int .u64 (dgl (q) 1 : Nat), .int .u64 (dgl (q) 2 : Nat), .int .u64 (dgl (q) 3 : Nat), .int .u64 (dgl (q) 4 : Nat), .int .u64 (dgl (q) 5 : Nat), .int .u64 (dgl (q) 6 : Nat), .int .u64 (dgl (q) 7 : Nat)])), (37, bif bs.headD false then SlotIs.any  else SlotIs.rd [1]), (38, .val (.agg #[.int .u64 (dgl (1) 0 : Nat), .int .u64 (dgl (1) 1 : Nat), .int .u64 (dgl (1) 2 : Nat), .int .u64 (dgl (1) 3 : Nat), .int .u64 (dgl (1) 4 : Nat), .int .u64 (dgl (1) 5 : Nat), .int .u64 (dgl (1) 6 : Nat), .int .u64 (dgl (1) 7 : Nat)])), (39, .val (.tuple #[.agg #[.int .u64 (dgl (s) 0 : Nat), .int .u64 (dgl (s) 1 : Nat), .int .u64 (dgl (s) 2 : Nat), .int .u64 (dgl (s) 3 : Nat), .int .u64 (dgl (s) 4 : Nat), .int .u64 (dgl (s) 5 : Nat), .int .u64 (dgl (s) 6 : Nat), .int .u64 (dgl (s) 7 : Nat)], .bool ov])), (35, .val (.tuple #[.agg #[.int .u64 (dgl (s) 0 : Nat), .int .u64 (dgl (s) 1 : Nat), .int .u64 (dgl (s) 2 : Nat), .int .u64 (dgl (s) 3 : Nat), .int .u64 (dgl (s) 4 : Nat), .int .u64 (dgl (s) 5 : Nat), .int .u64 (dgl (s) 6 : Nat), .int .u64 (dgl (s) 7 : Nat)], .bool ov])), (40, .val (.agg #[.int .u64 (dgl (s) 0 : Nat), .int .u64 (dgl (s) 1 : Nat), .int .u64 (dgl (s) 2 : Nat), .int .u64 (dgl (s) 3 : Nat), .int .u64 (dgl (s) 4 : Nat), .int .u64 (dgl (s) 5 : Nat), .int .u64 (dgl (s) 6 : Nat), .int .u64 (dgl (s) 7 : Nat)])), (41, .val (.bool ov))])
    (fun bs W => CtSt a w W ∧ (∀ c, bs.headD false = c → LiesF W p (dgl (bif c then s else q))) ∧ ∀ i, W.frozen? ⟨p, i, none⟩ = false) (fun bs => rfl) mixedOk (by kernel_rfl) (by kernel_rfl) (by kernel_rfl) (⟨h1.below (Below.refl _ _).drew, fun c hc => by subst hc; exact h2.below (Below.refl _ _).drew, fun i => (Below.refl _ _).drew.frozen (p := ⟨p, i, none⟩) h2.2 |>.trans (h3 i)⟩) (fun bs W W' h hb => ⟨h.1.below hb, fun c hq => (h.2.1 c hq).below hb, fun i => (hb.frozen (p := ⟨p, i, none⟩) (h.2.1 _ rfl).2).trans (h.2.2 i)⟩) ?_ ?_
  · refine kSt rfl (fun φ hφ => gStep_run rfl ?_) ?_
    · intro ρ W hC hc hf hL
      have e12 : ρ (.tmp 12) = .pointer (some ⟨p, 0, none⟩) := hL 12 (by decide +kernel)
      have hφ0 : φ 7 = false := hφ 7 (by simp) (by kernel_rfl)
      have hD : LiesF W p (dgl q) := hC.2.1 false hφ0
      have hl := hD.1
      simp [go_sem, hc, hf, e12, hl]
      exact ⟨Below.refl _ _, rfl⟩
    refine kSt rfl (fun φ hφ => gStep_run rfl ?_) ?_
    · intro ρ W hC hc hf hL
      have hφ0 : φ 7 = false := hφ 7 (by simp) (by kernel_rfl)
      simp [go_sem, hc, hf]
      refine ⟨below_allocs _ _, ?_⟩
      show (bif φ 7 then SlotIs.any else SlotIs.rd [1]).R _ _
      rw [hφ0]
      exact Rd.lit (mk := mk64) W 23 [.int .u64 1] [1] rfl 1 (Nat.le_refl 1) (by decide)
    refine kSt rfl (fun φ hφ => gStep_run rfl ?_) ?_
    · intro ρ W hC hc hf hL
      have hφ0 : φ 7 = false := hφ 7 (by simp) (by kernel_rfl)
      have b37 : (bif φ 7 then SlotIs.any  else SlotIs.rd [1]).R (ρ (.tmp 37)) W := hL 37 (by decide +kernel)
      rw [hφ0] at b37
      simp [go_sem, hc, hf]
      refine (wideOf_any [1] 1 _ _ b37 HD1.out).mono ?_
      rintro e w' ⟨rfl, hb⟩
      exact ⟨_, rfl, by first | exact hb | (subst hb; exact Below.refl _ _), rfl⟩
    refine kSt rfl (fun φ hφ => gStep_run rfl ?_) ?_
    · intro ρ W hC hc hf hL
      have e36 : ρ (.tmp 36) = .agg #[.int .u64 (dgl (q) 0 : Nat), .int .u64 (dgl (q) 1 : Nat), .int .u64 (dgl (q) 2 : Nat), .int .u64 (dgl (q) 3 : Nat), .int .u64 (dgl (q) 4 : Nat), .int .u64 (dgl (q) 5 : Nat), .int .u64 (dgl (q) 6 : Nat), .int .u64 (dgl (q) 7 : Nat)] := hL 36 (by decide +kernel)
      have e38 : ρ (.tmp 38) = .agg #[.int .u64 (dgl (1) 0 : Nat), .int .u64 (dgl (1) 1 : Nat), .int .u64 (dgl (1) 2 : Nat), .int .u64 (dgl (1) 3 : Nat), .int .u64 (dgl (1) 4 : Nat), .int .u64 (dgl (1) 5 : Nat), .int .u64 (dgl (1) 6 : Nat), .int .u64 (dgl (1) 7 : Nat)] := hL 38 (by decide +kernel)
      simp [go_sem, hc, hf, e36, e38]
      refine (HAD.out _).mono ?_
      rintro e w' ⟨rfl, hb⟩
      exact ⟨_, rfl, by first | exact hb | (subst hb; exact Below.refl _ _), rfl⟩
    refine kSt rfl (fun φ hφ => gStep_run rfl (gRun_move 39 35 (.inl rfl) rfl (by decide +kernel) (fun v w h => h))) ?_
    refine kSt rfl (fun φ hφ => gStep_run rfl ?_) ?_
    · intro ρ W hC hc hf hL
      have e35 : ρ (.tmp 35) = .tuple #[.agg #[.int .u64 (dgl (s) 0 : Nat), .int .u64 (dgl (s) 1 : Nat), .int .u64 (dgl (s) 2 : Nat), .int .u64 (dgl (s) 3 : Nat), .int .u64 (dgl (s) 4 : Nat), .int .u64 (dgl (s) 5 : Nat), .int .u64 (dgl (s) 6 : Nat), .int .u64 (dgl (s) 7 : Nat)], .bool ov] := hL 35 (by decide +kernel)
      simp [go_sem, hc, hf, e35]
      exact ⟨Below.refl _ _, rfl⟩
    refine kSt rfl (fun φ hφ => gStep_run rfl ?_) ?_
    · intro ρ W hC hc hf hL
      have e35 : ρ (.tmp 35) = .tuple #[.agg #[.int .u64 (dgl (s) 0 : Nat), .int .u64 (dgl (s) 1 : Nat), .int .u64 (dgl (s) 2 : Nat), .int .u64 (dgl (s) 3 : Nat), .int .u64 (dgl (s) 4 : Nat), .int .u64 (dgl (s) 5 : Nat), .int .u64 (dgl (s) 6 : Nat), .int .u64 (dgl (s) 7 : Nat)], .bool ov] := hL 35 (by decide +kernel)
      simp [go_sem, hc, hf, e35]
      exact ⟨Below.refl _ _, rfl⟩
    refine kStS rfl ⟨rfl, rfl, ?_⟩ ?_
    · intro φ ρ W hφ hC hc hL
      have e12 : ρ (.tmp 12) = .pointer (some ⟨p, 0, none⟩) := hL 12 (by decide +kernel)
      have e40 : ρ (.tmp 40) = .agg #[.int .u64 (dgl (s) 0 : Nat), .int .u64 (dgl (s) 1 : Nat), .int .u64 (dgl (s) 2 : Nat), .int .u64 (dgl (s) 3 : Nat), .int .u64 (dgl (s) 4 : Nat), .int .u64 (dgl (s) 5 : Nat), .int .u64 (dgl (s) 6 : Nat), .int .u64 (dgl (s) 7 : Nat)] := hL 40 (by decide +kernel)
      have hD : LiesF W p (dgl q) := hC.2.1 false hφ
      have hr := hD.1
      have hrl := hD.2
      have hrf := hC.2.2
      refine gUpon_of ((((((((W.setCell ⟨p, 0, none⟩ (.int .u64 (dgl s 0 : Nat))).setCell ⟨p, 1, none⟩ (.int .u64 (dgl s 1 : Nat))).setCell ⟨p, 2, none⟩ (.int .u64 (dgl s 2 : Nat))).setCell ⟨p, 3, none⟩ (.int .u64 (dgl s 3 : Nat))).setCell ⟨p, 4, none⟩ (.int .u64 (dgl s 4 : Nat))).setCell ⟨p, 5, none⟩ (.int .u64 (dgl s 5 : Nat))).setCell ⟨p, 6, none⟩ (.int .u64 (dgl s 6 : Nat))).setCell ⟨p, 7, none⟩ (.int .u64 (dgl s 7 : Nat))) ?_ (fun _ => ?_)
      · simp [go_sem, hc, e12, e40, hr, hrl, hrf, gUpon]
      have hs8 := below_set8 (Below.refl p W) p (Nat.le_refl _) (.int .u64 (dgl s 0 : Nat)) (.int .u64 (dgl s 1 : Nat)) (.int .u64 (dgl s 2 : Nat)) (.int .u64 (dgl s 3 : Nat)) (.int .u64 (dgl s 4 : Nat)) (.int .u64 (dgl s 5 : Nat)) (.int .u64 (dgl s 6 : Nat)) (.int .u64 (dgl s 7 : Nat))
      refine ⟨⟨hC.1.under hs8 HP.out, fun b hb => ?_, fun i => by simpa [go_sem] using hrf i⟩, fun t => ?_⟩
      · have hb2 : (φ 7 || true) = b := hb
        rw [Bool.or_true] at hb2
        subst hb2
        exact set8_same W p (dgl s) (dgl q) hD
      · refine (tbl_imp rfl (fun _ => val_imp) (tbl_imp rfl (fun _ h => ?_) (tbl_imp rfl (fun _ => val_imp) (tbl_imp rfl (fun _ => val_imp) (tbl_imp rfl (fun _ => val_imp) (tbl_imp rfl (fun _ => val_imp) (tbl_imp rfl (fun _ => val_imp) tbl_nil_imp)))))))
        show (bif (φ 7 || true) then SlotIs.any else SlotIs.rd [1]).R _ _
        rw [Bool.or_true]
        trivial
    exact kSt0
  · intro W hC
    refine gFi 36 rfl ?_
    rintro _ rfl
    refine gFi 37 rfl ?_
    rintro u37 b37
    refine gFi 38 rfl ?_
    rintro _ rfl
    refine gFi 39 rfl ?_
    rintro _ rfl
    refine gFi 35 rfl ?_
    rintro _ rfl
    refine gFi 40 rfl ?_
    rintro _ rfl
    refine gFi 41 rfl ?_
    rintro _ rfl
    refine gFiN rfl ?_
    refine gFi0 ?_
    simp only [List.drop_succ_cons, List.drop_zero, Act.put, List.setIfInBounds_toArray, List.set_cons_succ, List.set_cons_zero]
    have HQ : Hid (LiesF W p (dgl s)) := hC.2.1 true rfl
    have HST := hide hC.1
    clear hC h1 h2 h3 b37
    have his := HIS.out
    have hc := HQ.out.1
    have hr := HST.out.lr.1
    have hrf := HST.out.fr
    have hl := HST.out.lr.2
    have HB := hide HST.out.bel
    clear HST HQ
    go_wp2
    exact bodyPost_ret (v := .tuple #[.agg #[.int .u64 (dgl (s) 0 : Nat), .int .u64 (dgl (s) 1 : Nat), .int .u64 (dgl (s) 2 : Nat), .int .u64 (dgl (s) 3 : Nat), .int .u64 (dgl (s) 4 : Nat), .int .u64 (dgl (s) 5 : Nat), .int .u64 (dgl (s) 6 : Nat), .int .u64 (dgl (s) 7 : Nat)], .bool is]) (by simp [results, Tryz.results48, go_sem, hr, hl]) rfl ⟨rfl, below_set8 HB.out _ (by omega) _ _ _ _ _ _ _ _⟩

end Go.Proofs.YtpcjdllijkjdkaaGreatDoor

/- Contracts: mode.Cut with its numbers; the document's Cut; law08.awake. -/
set_option linter.unusedVariables false
set_option linter.unusedSimpArgs false
set_option maxRecDepth 8000
namespace Go.Proofs.YtpcjdllijkjdkaaGreatDoor
open Go.RowKit Plain

/-- A number without its lowest digits, rounded. -/
def cutN (a k : Nat) (m : Int) (more neg : Bool) : Nat := a / 2 ^ k + (growN m neg (a / 2 ^ k % 2 == 1) (restN a k more : Nat)).toNat
theorem div_far (a k c : Nat) (ha : a < QQ) (h : k = c ∨ (512 ≤ c ∧ 512 ≤ k)) : a / 2 ^ c = a / 2 ^ k := by
  rcases h with rfl | ⟨h1, h2⟩
  · rfl
  · obtain ⟨e, he⟩ : ∃ e, e = 64 * 8 := ⟨_, rfl⟩
    have hq := qq_pow e he
    rw [Nat.div_eq_of_lt (Nat.lt_of_lt_of_le ha (Nat.le_trans (Nat.le_of_eq hq.symm) (Nat.pow_le_pow_right (by decide) (by omega)))), Nat.div_eq_of_lt (Nat.lt_of_lt_of_le ha (Nat.le_trans (Nat.le_of_eq hq.symm) (Nat.pow_le_pow_right (by decide) (by omega))))]
theorem modeCut_yes (a : Nat) (ha : a < QQ) (n m : Int) (hn1 : n ≤ 9223372036854775807) (more neg : Bool) (h : isM m = true) (w : World) :
    Calls Tryz.prog 48 #[.agg #[.int .u64 (dgl (a) 0 : Nat), .int .u64 (dgl (a) 1 : Nat), .int .u64 (dgl (a) 2 : Nat), .int .u64 (dgl (a) 3 : Nat), .int .u64 (dgl (a) 4 : Nat), .int .u64 (dgl (a) 5 : Nat), .int .u64 (dgl (a) 6 : Nat), .int .u64 (dgl (a) 7 : Nat)], .int .i64 n, .bool more, .int .i64 m, .bool neg] w fun e w' => e = .returned (.tuple #[.agg #[.int .u64 (dgl (cutN a n.toNat m more neg) 0 : Nat), .int .u64 (dgl (cutN a n.toNat m more neg) 1 : Nat), .int .u64 (dgl (cutN a n.toNat m more neg) 2 : Nat), .int .u64 (dgl (cutN a n.toNat m more neg) 3 : Nat), .int .u64 (dgl (cutN a n.toNat m more neg) 4 : Nat), .int .u64 (dgl (cutN a n.toNat m more neg) 5 : Nat), .int .u64 (dgl (cutN a n.toNat m more neg) 6 : Nat), .int .u64 (dgl (cutN a n.toNat m more neg) 7 : Nat)], .bool (!decide (restN a n.toNat more = 0))]) ∧ Below w.heap.size w w' := by
  obtain ⟨k, hk⟩ : ∃ k : Nat, n.toNat = k := ⟨_, rfl⟩
  have HS := fun w => wideShr_any a (min k 512) n (by unfold roomI; omega) ha w
  rw [div_far a k (min k 512) ha (by omega)] at HS
  have hq : a / 2 ^ k < QQ := Nat.lt_of_le_of_lt (Nat.div_le_self _ _) ha
  have HM := fun w => modeIs_any m w
  have HR := fun w => modeRest_any a ha n hn1 more w
  have HBT := fun w => wideBit_any (a / 2 ^ k) 0 hq (by decide) (by decide) w
  have HG := fun w => modeGrows_any m neg (a / 2 ^ k % 2 == 1) (restN a k more : Nat) w
  rw [h] at HM
  rw [hk] at HR ⊢
  rw [show (0 : Int).toNat = 0 from rfl, Nat.pow_zero, Nat.div_one] at HBT
  have HIS : (((restN a k more : Nat) : Int) != 0) = !decide (restN a k more = 0) := by
    rw [Bool.eq_iff_iff, bne_iff_ne, Bool.not_eq_true', decide_eq_false_iff_not]
    omega
  unfold cutN
  generalize growN m neg (a / 2 ^ k % 2 == 1) (restN a k more : Nat) = g at HG ⊢
  cases g
  · exact modeCut_keep a (a / 2 ^ k) n m _ more neg _ _ _ HIS HM HS HR HBT HG w
  · exact modeCut_grow a (a / 2 ^ k) (a / 2 ^ k + 1) n m _ more neg _ _ _ _ HIS HM HS HR HBT HG (fun i hi => (dig_one (β := 18446744073709551616) (by decide)).2 i) (fun w => wideAdd_any (a / 2 ^ k) 1 hq one_lt_qq w) w

end Go.Proofs.YtpcjdllijkjdkaaGreatDoor

/- Arrays of ints that come as arguments. -/
set_option linter.unusedVariables false
set_option linter.unusedSimpArgs false
set_option maxRecDepth 8000
namespace Go.Proofs.YtpcjdllijkjdkaaGreatDoor
open Go.RowKit Plain

theorem ints2_open {H : Type} {enc : TypeId × Value → H} {W : World} {r : Reach} {b0 base : Nat} {sp : Nat → Bool} {held : Bool} {v : Value} {d : DataW H} {ps : List MemPlace}
    (hval : Value.okWide Tryz.prog W r b0 22 v) (hd : DataW.Trod enc Tryz.prog W base sp held 22 v d ps) : ∃ q0 q1 : Int, ((-9223372036854775808 ≤ q0 ∧ q0 ≤ 9223372036854775807) ∧ (-9223372036854775808 ≤ q1 ∧ q1 ≤ 9223372036854775807)) ∧ v = .agg #[.int .i64 q0, .int .i64 q1] := by
  simp only [Value.okWide, Tryz.underlying22] at hval
  obtain ⟨cs, rfl, hsz, _⟩ := hval
  have hc : Tryz.prog.cellsOf 22 = 2 := by kernel_rfl
  have hc1 : Tryz.prog.cellsOf 3 = 1 := by kernel_rfl
  rw [hc] at hsz
  obtain ⟨fuel, hf⟩ := hd
  obtain ⟨xs, m, _, _, _, hl, hget⟩ := DataW.trod_array Tryz.underlying22 hf
  rw [hc1] at hget
  have key : ∀ i, i < 2 → ∃ a : Int, cs[i]? = some (.int .i64 a) ∧ (-9223372036854775808 ≤ a ∧ a ≤ 9223372036854775807) := fun i hi => by
    have h1 := hget i hi
    rw [List.getElem?_eq_getElem (by omega)] at h1
    obtain ⟨a, ea, _, wa⟩ := DataW.trod_int Tryz.underlying3 h1
    refine ⟨a, ?_, i64_bd wa⟩
    simp only [Value.cells, Nat.mul_one] at ea
    have := congrArg (fun l => l[0]?) ea
    simpa [List.getElem?_take, List.getElem?_drop] using this
  obtain ⟨q0, e0, b0⟩ := key 0 (by decide)
  obtain ⟨q1, e1, b1⟩ := key 1 (by decide)
  refine ⟨q0, q1, ⟨b0, b1⟩, ?_⟩
  congr 1
  apply Array.ext
  · simpa using hsz
  · intro i h1 h2
    have hi : i < 2 := by simpa using h2
    match i, hi with
    | 0, _ => rw [Array.getElem?_eq_getElem h1] at e0; exact Option.some.inj e0
    | 1, _ => rw [Array.getElem?_eq_getElem h1] at e1; exact Option.some.inj e1

end Go.Proofs.YtpcjdllijkjdkaaGreatDoor

