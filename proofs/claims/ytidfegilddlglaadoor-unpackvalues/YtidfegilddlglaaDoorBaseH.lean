/- Contracts and laws: WideL, WideM, WideN, WideO, WideP. -/
import Derived.Test.YtidfegilddlglaaDoorBaseG
import Derived.Deep.DeepCutAuto
import Derived.WalkKit
import Derived.ProofKit
import Derived.OpenShut
import Derived.Test.YtidfegilddlglaaDoorBaseC
/- The walk over radicandlaw02.WideAdds. -/
set_option linter.unusedVariables false
set_option linter.unusedSimpArgs false
set_option maxRecDepth 8000
namespace Go.Proofs.YtidfegilddlglaaDoor
open Go.RowKit Plain

/-- Eight limbs lie in a block of the world. -/
def LiesF (w : World) (b : Nat) (f : Nat → Nat) : Prop := (∀ i, i < 8 → w.cell? ⟨b, i, none⟩ = some (.int .u64 (f i : Nat))) ∧ b < w.heap.size
theorem LiesF.below {w w' : World} {b : Nat} {f : Nat → Nat} (h : LiesF w b f) (hb : Below w.heap.size w w') : LiesF w' b f :=
  ⟨fun i hi => (hb.cell (p := ⟨b, i, none⟩) h.2).trans (h.1 i hi), Nat.lt_of_lt_of_le h.2 hb.size⟩
theorem below_allocs (w : World) (o : Obj) : Below w.heap.size w (w.alloc o) := (Below.refl _ _).alloc (Nat.le_refl _) o
theorem LiesF.alloc {w : World} {b : Nat} {f : Nat → Nat} (h : LiesF w b f) (o : Obj) : LiesF (w.alloc o) b f := h.below (below_allocs w o)
theorem LiesF.drew {w : World} {b : Nat} {f : Nat → Nat} (h : LiesF w b f) : LiesF w.drew b f := h
theorem liesF_new (w : World) (f : Nat → Nat) (e : TypeId) : LiesF (w.alloc (.cells #[.int .u64 (f 0 : Nat), .int .u64 (f 1 : Nat), .int .u64 (f 2 : Nat), .int .u64 (f 3 : Nat), .int .u64 (f 4 : Nat), .int .u64 (f 5 : Nat), .int .u64 (f 6 : Nat), .int .u64 (f 7 : Nat)] e)) w.heap.size f := by
  refine ⟨fun i hi => ?_, by simp⟩
  match i, hi with
  | 0, _ => simp [go_sem]
  | 1, _ => simp [go_sem]
  | 2, _ => simp [go_sem]
  | 3, _ => simp [go_sem]
  | 4, _ => simp [go_sem]
  | 5, _ => simp [go_sem]
  | 6, _ => simp [go_sem]
  | 7, _ => simp [go_sem]

structure AddsSt (w0 : World) (fa fb : Nat → Nat) (a b : Nat) (x y : Value) (W : World) : Prop where
  la : LiesF W w0.heap.size fa
  lb : LiesF W (w0.heap.size + 1) fb
  x : BigV W x a 40
  y : BigV W y b 40
  bel : Below w0.heap.size w0 W
theorem AddsSt.below {w0 : World} {fa fb : Nat → Nat} {a b : Nat} {x y : Value} {W W' : World} (h : AddsSt w0 fa fb a b x y W) (hb : Below W.heap.size W W') : AddsSt w0 fa fb a b x y W' :=
  ⟨h.la.below hb, h.lb.below hb, h.x.below hb, h.y.below hb, below_trans h.bel hb⟩
theorem AddsSt.alloc {w0 : World} {fa fb : Nat → Nat} {a b : Nat} {x y : Value} {W : World} (h : AddsSt w0 fa fb a b x y W) (o : Obj) : AddsSt w0 fa fb a b x y (W.alloc o) := h.below (below_allocs W o)

theorem wide_sameF (f : Nat → Nat) (w : World) : (Op.equalIn 10000 28 (.agg #[.int .u64 (f 0 : Nat), .int .u64 (f 1 : Nat), .int .u64 (f 2 : Nat), .int .u64 (f 3 : Nat), .int .u64 (f 4 : Nat), .int .u64 (f 5 : Nat), .int .u64 (f 6 : Nat), .int .u64 (f 7 : Nat)]) (.agg #[.int .u64 (f 0 : Nat), .int .u64 (f 1 : Nat), .int .u64 (f 2 : Nat), .int .u64 (f 3 : Nat), .int .u64 (f 4 : Nat), .int .u64 (f 5 : Nat), .int .u64 (f 6 : Nat), .int .u64 (f 7 : Nat)])).run Tryd.prog w = .ok true w := by
  have := wide_equal f f w
  simpa using this

theorem back_digit (a b i : Nat) (hi : i < 8) (ha : a < QQ) (hb : b < QQ) : dgl (subQ a b + b) i = dgl a i := by
  have h := subW_eq (β := 18446744073709551616) (by decide) 8 a b
  rw [show b % 18446744073709551616 ^ 8 = b from Nat.mod_eq_of_lt hb, show a % 18446744073709551616 ^ 8 = a from Nat.mod_eq_of_lt ha] at h
  have e : subQ a b + b = a + 18446744073709551616 ^ 8 * bor 18446744073709551616 a b 8 := h
  have h1 := wide_end (Q := 18446744073709551616) (by decide) (subQ a b + b) 8 i hi
  have h2 := wide_end (Q := 18446744073709551616) (by decide) a 8 i hi
  unfold dgl
  rw [← h1, ← h2, e, Nat.add_mul_mod_self_left]

end Go.Proofs.YtidfegilddlglaaDoor

/- A wide that is handed in, opened. -/
set_option linter.unusedVariables false
set_option linter.unusedSimpArgs false
set_option maxRecDepth 8000
namespace Go.Proofs.YtidfegilddlglaaDoor
open Go.ChangeShapes Go.WideShapes Go.ChangeAt Go.RowKit Plain

theorem wide_of_cells (cs : Array Value) (hs : cs.size = 8) (h : ∀ i, i < 8 → ∃ n : Nat, n < 18446744073709551616 ∧ cs.toList[i]? = some (.int .u64 (n : Nat))) : ∃ x, x < QQ ∧ cs = #[.int .u64 (dgl (x) 0 : Nat), .int .u64 (dgl (x) 1 : Nat), .int .u64 (dgl (x) 2 : Nat), .int .u64 (dgl (x) 3 : Nat), .int .u64 (dgl (x) 4 : Nat), .int .u64 (dgl (x) 5 : Nat), .int .u64 (dgl (x) 6 : Nat), .int .u64 (dgl (x) 7 : Nat)] := by
  have hf : ∃ f : Nat → Nat, ∀ i, i < 8 → f i < 18446744073709551616 ∧ cs.toList[i]? = some (.int .u64 (f i : Nat)) :=
    ⟨fun i => if hi : i < 8 then Classical.choose (h i hi) else 0, fun i hi => by simp only [dif_pos hi]; exact Classical.choose_spec (h i hi)⟩
  obtain ⟨f, hf⟩ := hf
  have hlt : ∀ i, dg ((List.range 8).map f) i < 18446744073709551616 := by
    intro i
    rcases Nat.lt_or_ge i 8 with hi | hi
    · simp [dg, hi]; exact (hf i hi).1
    · rw [getD_past _ _ (by simpa using hi)]; decide
  have hd := val_dig (β := 18446744073709551616) (by decide) _ hlt
  have hx : val 18446744073709551616 ((List.range 8).map f) < QQ := by
    have := hd.1
    simpa [QQ] using this
  generalize val 18446744073709551616 ((List.range 8).map f) = x at *
  have hdg : ∀ i, i < 8 → f i = dgl x i := by
    intro i hi
    have h2 := hd.2 i
    have : dg ((List.range 8).map f) i = f i := by simp [dg, hi]
    rw [← this, h2]; rfl
  refine ⟨x, hx, ?_⟩
  apply Array.ext'
  apply List.ext_getElem?
  intro i
  rcases Nat.lt_or_ge i 8 with hi | hi
  · rw [(hf i hi).2, hdg i hi]
    match i, hi with
    | 0, _ => rfl
    | 1, _ => rfl
    | 2, _ => rfl
    | 3, _ => rfl
    | 4, _ => rfl
    | 5, _ => rfl
    | 6, _ => rfl
    | 7, _ => rfl
  · rw [List.getElem?_eq_none (by simpa [hs] using hi), List.getElem?_eq_none (by simpa using hi)]

theorem wide_of_trod {H : Type} {enc : TypeId × Value → H} {W : World} {r : Reach} {b0 base : Nat} {sp : Nat → Bool} {held : Bool} {v : Value} {d : DataW H} {ps : List MemPlace}
    (hval : Value.okWide Tryd.prog W r b0 28 v) (hd : DataW.Trod enc Tryd.prog W base sp held 28 v d ps) : ∃ x, x < QQ ∧ v = .agg #[.int .u64 (dgl (x) 0 : Nat), .int .u64 (dgl (x) 1 : Nat), .int .u64 (dgl (x) 2 : Nat), .int .u64 (dgl (x) 3 : Nat), .int .u64 (dgl (x) 4 : Nat), .int .u64 (dgl (x) 5 : Nat), .int .u64 (dgl (x) 6 : Nat), .int .u64 (dgl (x) 7 : Nat)] := by
  simp only [Value.okWide, Tryd.underlying28] at hval
  obtain ⟨cs, rfl, hsz, _⟩ := hval
  have hc : Tryd.prog.cellsOf 28 = 8 := by kernel_rfl
  have hc1 : Tryd.prog.cellsOf 22 = 1 := by kernel_rfl
  rw [hc] at hsz
  obtain ⟨fuel, hf⟩ := hd
  obtain ⟨xs, m, _, _, _, hl, hget⟩ := DataW.trod_array Tryd.underlying28 hf
  rw [hc1] at hget
  obtain ⟨x, hx, e⟩ := wide_of_cells cs hsz (fun i hi => by
    have h1 := hget i hi
    rw [List.getElem?_eq_getElem (by omega)] at h1
    obtain ⟨a, ea, _, wa⟩ := DataW.trod_int Tryd.underlying22 h1
    obtain ⟨n, rfl, hn⟩ := u64_nat wa
    refine ⟨n, hn, ?_⟩
    simp only [Value.cells, Nat.mul_one] at ea
    have := congrArg (fun l => l[0]?) ea
    simpa [List.getElem?_take, List.getElem?_drop] using this)
  exact ⟨x, hx, by rw [e]⟩

end Go.Proofs.YtidfegilddlglaaDoor

/- Contracts: radicandref02.Power, Whole, Minus. -/
set_option linter.unusedVariables false
set_option linter.unusedSimpArgs false
set_option maxRecDepth 8000
namespace Go.Proofs.YtidfegilddlglaaDoor
open Go.RowKit Plain

theorem pow_pos' (s P : Nat) (h : 2 ^ s = P) : 0 < P := by rw [← h]; exact Nat.two_pow_pos s
theorem qq_pow (s : Nat) (hs : s = 64 * 8) : 2 ^ s = QQ := by unfold QQ; rw [LLpow, hs]
theorem qq_half (s P : Nat) (hs : s + 1 = 64 * 8) (h : 2 ^ s = P) : QQ = 2 * P := by unfold QQ; rw [LLpow, ← hs, Nat.pow_succ, h, Nat.mul_comm]

theorem half_iff (a P : Nat) (hP : 0 < P) (ha : a < 2 * P) : decide (0 ≤ cmpN a P) = (a / P % 2 == 1) := by
  rw [Bool.eq_iff_iff, decide_eq_true_iff, beq_iff_eq]
  rcases Nat.lt_or_ge a P with h | h
  · rw [Nat.div_eq_of_lt h]
    unfold cmpN; rw [if_pos h]; omega
  · have e : a / P = 1 := by
      have h1 : 1 ≤ a / P := (Nat.le_div_iff_mul_le hP).2 (by omega)
      have h2 : a / P < 2 := (Nat.div_lt_iff_lt_mul hP).2 ha
      omega
    rw [e]
    unfold cmpN; rw [if_neg (by omega)]
    constructor
    · intro _; rfl
    · intro _; split <;> omega

end Go.Proofs.YtidfegilddlglaaDoor

/- Contracts: wide.Neg; wide.Shr. -/
set_option linter.unusedVariables false
set_option linter.unusedSimpArgs false
set_option maxRecDepth 8000
namespace Go.Proofs.YtidfegilddlglaaDoor
open Go.RowKit Plain

theorem wideSubZ (a : Nat) (ha : a < QQ) (w : World) :
    Calls Tryd.prog 85 #[.agg #[.int .u64 0, .int .u64 0, .int .u64 0, .int .u64 0, .int .u64 0, .int .u64 0, .int .u64 0, .int .u64 0], .agg #[.int .u64 (dgl (a) 0 : Nat), .int .u64 (dgl (a) 1 : Nat), .int .u64 (dgl (a) 2 : Nat), .int .u64 (dgl (a) 3 : Nat), .int .u64 (dgl (a) 4 : Nat), .int .u64 (dgl (a) 5 : Nat), .int .u64 (dgl (a) 6 : Nat), .int .u64 (dgl (a) 7 : Nat)]] w fun e w' => e = .returned (.tuple #[.agg #[.int .u64 (dgl (subQ 0 a) 0 : Nat), .int .u64 (dgl (subQ 0 a) 1 : Nat), .int .u64 (dgl (subQ 0 a) 2 : Nat), .int .u64 (dgl (subQ 0 a) 3 : Nat), .int .u64 (dgl (subQ 0 a) 4 : Nat), .int .u64 (dgl (subQ 0 a) 5 : Nat), .int .u64 (dgl (subQ 0 a) 6 : Nat), .int .u64 (dgl (subQ 0 a) 7 : Nat)], .bool (decide (0 < a))]) ∧ Below w.heap.size w w' := by
  have h := wideSub_any 0 a (by unfold QQ; exact Nat.pow_pos (by decide)) ha w
  simp only [dgl_zero] at h
  exact h

end Go.Proofs.YtidfegilddlglaaDoor

/- Eight cells stored at once; a block below a change. -/
set_option linter.unusedVariables false
set_option linter.unusedSimpArgs false
set_option maxRecDepth 8000
namespace Go.Proofs.YtidfegilddlglaaDoor
open Go.RowKit Plain

theorem set8_same (w : World) (B : Nat) (f g : Nat → Nat) (h : LiesF w B g) : LiesF ((((((((w.setCell ⟨B, 0, none⟩ (.int .u64 (f 0 : Nat))).setCell ⟨B, 1, none⟩ (.int .u64 (f 1 : Nat))).setCell ⟨B, 2, none⟩ (.int .u64 (f 2 : Nat))).setCell ⟨B, 3, none⟩ (.int .u64 (f 3 : Nat))).setCell ⟨B, 4, none⟩ (.int .u64 (f 4 : Nat))).setCell ⟨B, 5, none⟩ (.int .u64 (f 5 : Nat))).setCell ⟨B, 6, none⟩ (.int .u64 (f 6 : Nat))).setCell ⟨B, 7, none⟩ (.int .u64 (f 7 : Nat))) B f := by
  have h0 := h.1 0 (by decide)
  have h1 := h.1 1 (by decide)
  have h2 := h.1 2 (by decide)
  have h3 := h.1 3 (by decide)
  have h4 := h.1 4 (by decide)
  have h5 := h.1 5 (by decide)
  have h6 := h.1 6 (by decide)
  have h7 := h.1 7 (by decide)
  refine ⟨fun i hi => ?_, by simpa using h.2⟩
  match i, hi with
  | 0, _ => simp [go_sem, h0]
  | 1, _ => simp [go_sem, h1]
  | 2, _ => simp [go_sem, h2]
  | 3, _ => simp [go_sem, h3]
  | 4, _ => simp [go_sem, h4]
  | 5, _ => simp [go_sem, h5]
  | 6, _ => simp [go_sem, h6]
  | 7, _ => simp [go_sem, h7]

theorem lies_box {w w' : World} {b B : Nat} {f : Nat → Nat} (h : LiesF w b f) (hb : Below B w w') (hlt : b < B) : LiesF w' b f :=
  ⟨fun i hi => (hb.cell (p := ⟨b, i, none⟩) hlt).trans (h.1 i hi), Nat.lt_of_lt_of_le h.2 hb.size⟩

end Go.Proofs.YtidfegilddlglaaDoor

