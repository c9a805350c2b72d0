/- Contracts and laws: WideM, WideN, WideO, WideP. -/
import Derived.Test.YtbngaajhdaciaaaPartAJ
import Derived.WalkKit
import Derived.ProofKit
import Derived.OpenShut
import Derived.Test.YtbngaajhdaciaaaPartAG
/- A wide that is handed in, opened. -/
set_option linter.unusedVariables false
set_option linter.unusedSimpArgs false
set_option maxRecDepth 8000
namespace Go.Proofs.Ytbngaajhdaciaaa
open Go.ChangeShapes Go.WideShapes Go.ChangeAt Go.RowKit Plain

theorem wide_of_cells (cs : Array Value) (hs : cs.size = 8) (h : ∀ i, i < 8 → ∃ n : Nat, n < 18446744073709551616 ∧ cs.toList[i]? = some (.int .u64 (n : Nat))) : ∃ x, x < QQ ∧ cs = #[.int .u64 (dgl (x) 0 : Nat), .int .u64 (dgl (x) 1 : Nat), .int .u64 (dgl (x) 2 : Nat), .int .u64 (dgl (x) 3 : Nat), .int .u64 (dgl (x) 4 : Nat), .int .u64 (dgl (x) 5 : Nat), .int .u64 (dgl (x) 6 : Nat), .int .u64 (dgl (x) 7 : Nat)] := by
  have hf : ∃ f : Nat → Nat, ∀ i, i < 8 → f i < 18446744073709551616 ∧ cs.toList[i]? = some (.int .u64 (f i : Nat)) :=
    ⟨fun i => if hi : i < 8 then Classical.choose (h i hi) else 0, fun i hi => by simp only [dif_pos hi]; exact Classical.choose_spec (h i hi)⟩
  obtain ⟨f, hf⟩ := hf
  have hlt : ∀ i, dg ((List.range 8).map f) i < 18446744073709551616 := by
    intro i
    rcases Nat.lt_or_ge i 8 with hi | hi
    · simp [dg, hi]; exact (hf i hi).1
    · rw [getD_past _ _ (by simpa using hi)]; decide
  have hd := val_dig (β := 18446744073709551616) (by decide) _ hlt
  have hx : val 18446744073709551616 ((List.range 8).map f) < QQ := by
    have := hd.1
    simpa [QQ] using this
  generalize val 18446744073709551616 ((List.range 8).map f) = x at *
  have hdg : ∀ i, i < 8 → f i = dgl x i := by
    intro i hi
    have h2 := hd.2 i
    have : dg ((List.range 8).map f) i = f i := by simp [dg, hi]
    rw [← this, h2]; rfl
  refine ⟨x, hx, ?_⟩
  apply Array.ext'
  apply List.ext_getElem?
  intro i
  rcases Nat.lt_or_ge i 8 with hi | hi
  · rw [(hf i hi).2, hdg i hi]
    match i, hi with
    | 0, _ => rfl
    | 1, _ => rfl
    | 2, _ => rfl
    | 3, _ => rfl
    | 4, _ => rfl
    | 5, _ => rfl
    | 6, _ => rfl
    | 7, _ => rfl
  · rw [List.getElem?_eq_none (by simpa [hs] using hi), List.getElem?_eq_none (by simpa using hi)]

theorem wide_of_trod {H : Type} {enc : TypeId × Value → H} {W : World} {r : Reach} {b0 base : Nat} {sp : Nat → Bool} {held : Bool} {v : Value} {d : DataW H} {ps : List MemPlace}
    (hval : Value.okWide Try.prog W r b0 24 v) (hd : DataW.Trod enc Try.prog W base sp held 24 v d ps) : ∃ x, x < QQ ∧ v = .agg #[.int .u64 (dgl (x) 0 : Nat), .int .u64 (dgl (x) 1 : Nat), .int .u64 (dgl (x) 2 : Nat), .int .u64 (dgl (x) 3 : Nat), .int .u64 (dgl (x) 4 : Nat), .int .u64 (dgl (x) 5 : Nat), .int .u64 (dgl (x) 6 : Nat), .int .u64 (dgl (x) 7 : Nat)] := by
  simp only [Value.okWide, Try.underlying24] at hval
  obtain ⟨cs, rfl, hsz, _⟩ := hval
  have hc : Try.prog.cellsOf 24 = 8 := by kernel_rfl
  have hc1 : Try.prog.cellsOf 22 = 1 := by kernel_rfl
  rw [hc] at hsz
  obtain ⟨fuel, hf⟩ := hd
  obtain ⟨xs, m, _, _, _, hl, hget⟩ := DataW.trod_array Try.underlying24 hf
  rw [hc1] at hget
  obtain ⟨x, hx, e⟩ := wide_of_cells cs hsz (fun i hi => by
    have h1 := hget i hi
    rw [List.getElem?_eq_getElem (by omega)] at h1
    obtain ⟨a, ea, _, wa⟩ := DataW.trod_int Try.underlying22 h1
    obtain ⟨n, rfl, hn⟩ := u64_nat wa
    refine ⟨n, hn, ?_⟩
    simp only [Value.cells, Nat.mul_one] at ea
    have := congrArg (fun l => l[0]?) ea
    simpa [List.getElem?_take, List.getElem?_drop] using this)
  exact ⟨x, hx, by rw [e]⟩

end Go.Proofs.Ytbngaajhdaciaaa

/- Contracts: radicandref02.Power, Whole, Minus. -/
set_option linter.unusedVariables false
set_option linter.unusedSimpArgs false
set_option maxRecDepth 8000
namespace Go.Proofs.Ytbngaajhdaciaaa
open Go.RowKit Plain

theorem refPower_any (s P : Nat) (hs : s ≤ 100000) (hP : 2 ^ s = P) (w : World) :
    Calls Try.prog 21 #[.int .i64 s] w fun e w' => ∃ v, e = .returned v ∧ BigV w' v P (s / 32 + 3) ∧ Below w.heap.size w w' := by
  have HS := hide (fun w => small_any 1 (by decide) w)
  have HL := hide (fun v w h => refShl_any 1 2 s v w h (by decide) hs)
  rw [Nat.one_mul, hP] at HL
  clear hP
  go_enter Try.func21, Try.ntmps21
  go_wp2_with fail
  refine (HS.out _).mono ?_
  rintro e w1 ⟨v1, rfl, h1, hb1⟩
  go_wp2_with fail
  refine (HL.out _ _ h1).mono ?_
  rintro e w2 ⟨v2, rfl, h2, hb2⟩
  go_wp2
  go_ret
  exact ⟨_, rfl, h2, below_trans hb1 hb2⟩

theorem refPower_int (s P : Nat) (x : Int) (hs : s ≤ 100000) (hP : 2 ^ s = P) (hx : x = (s : Int)) (w : World) :
    Calls Try.prog 21 #[.int .i64 x] w fun e w' => ∃ v, e = .returned v ∧ BigV w' v P (s / 32 + 3) ∧ Below w.heap.size w w' := by
  subst hx; exact refPower_any s P hs hP w

theorem qq_pow (s : Nat) (hs : s = 64 * 8) : 2 ^ s = QQ := by unfold QQ; rw [LLpow, hs]
theorem qq_half (s P : Nat) (hs : s + 1 = 64 * 8) (h : 2 ^ s = P) : QQ = 2 * P := by unfold QQ; rw [LLpow, ← hs, Nat.pow_succ, h, Nat.mul_comm]

end Go.Proofs.Ytbngaajhdaciaaa

/- Contracts: wide.Neg; wide.Shr. -/
set_option linter.unusedVariables false
set_option linter.unusedSimpArgs false
set_option maxRecDepth 8000
namespace Go.Proofs.Ytbngaajhdaciaaa
open Go.RowKit Plain

theorem wideSubZ (a : Nat) (ha : a < QQ) (w : World) :
    Calls Try.prog 29 #[.agg #[.int .u64 0, .int .u64 0, .int .u64 0, .int .u64 0, .int .u64 0, .int .u64 0, .int .u64 0, .int .u64 0], .agg #[.int .u64 (dgl (a) 0 : Nat), .int .u64 (dgl (a) 1 : Nat), .int .u64 (dgl (a) 2 : Nat), .int .u64 (dgl (a) 3 : Nat), .int .u64 (dgl (a) 4 : Nat), .int .u64 (dgl (a) 5 : Nat), .int .u64 (dgl (a) 6 : Nat), .int .u64 (dgl (a) 7 : Nat)]] w fun e w' => e = .returned (.tuple #[.agg #[.int .u64 (dgl (subQ 0 a) 0 : Nat), .int .u64 (dgl (subQ 0 a) 1 : Nat), .int .u64 (dgl (subQ 0 a) 2 : Nat), .int .u64 (dgl (subQ 0 a) 3 : Nat), .int .u64 (dgl (subQ 0 a) 4 : Nat), .int .u64 (dgl (subQ 0 a) 5 : Nat), .int .u64 (dgl (subQ 0 a) 6 : Nat), .int .u64 (dgl (subQ 0 a) 7 : Nat)], .bool (decide (0 < a))]) ∧ Below w.heap.size w w' := by
  have h := wideSub_any 0 a (by unfold QQ; exact Nat.pow_pos (by decide)) ha w
  simp only [dgl_zero] at h
  exact h

set_option maxHeartbeats 400000 in
theorem wideNeg_any (a : Nat) (ha : a < QQ) (w : World) :
    Calls Try.prog 69 #[.agg #[.int .u64 (dgl (a) 0 : Nat), .int .u64 (dgl (a) 1 : Nat), .int .u64 (dgl (a) 2 : Nat), .int .u64 (dgl (a) 3 : Nat), .int .u64 (dgl (a) 4 : Nat), .int .u64 (dgl (a) 5 : Nat), .int .u64 (dgl (a) 6 : Nat), .int .u64 (dgl (a) 7 : Nat)]] w fun e w' => e = .returned (.agg #[.int .u64 (dgl (subQ 0 a) 0 : Nat), .int .u64 (dgl (subQ 0 a) 1 : Nat), .int .u64 (dgl (subQ 0 a) 2 : Nat), .int .u64 (dgl (subQ 0 a) 3 : Nat), .int .u64 (dgl (subQ 0 a) 4 : Nat), .int .u64 (dgl (subQ 0 a) 5 : Nat), .int .u64 (dgl (subQ 0 a) 6 : Nat), .int .u64 (dgl (subQ 0 a) 7 : Nat)]) ∧ Below w.heap.size w w' := by
  have HS := hide (fun w => wideSubZ a ha w)
  clear ha
  go_enter Try.func69, Try.ntmps69
  go_wp2_with fail
  refine (HS.out _).mono ?_
  rintro e w1 ⟨rfl, hb1⟩
  obtain ⟨hr, hrf, hl⟩ := res_box hb1
  have HB := hide (below_alloc_then (below_alloc_then hb1))
  simp only [World.size_alloc] at hr hrf hl
  clear hb1
  go_wp2
  exact bodyPost_ret (v := .agg #[.int .u64 (dgl (subQ 0 a) 0 : Nat), .int .u64 (dgl (subQ 0 a) 1 : Nat), .int .u64 (dgl (subQ 0 a) 2 : Nat), .int .u64 (dgl (subQ 0 a) 3 : Nat), .int .u64 (dgl (subQ 0 a) 4 : Nat), .int .u64 (dgl (subQ 0 a) 5 : Nat), .int .u64 (dgl (subQ 0 a) 6 : Nat), .int .u64 (dgl (subQ 0 a) 7 : Nat)]) (by simp [results, Try.results69, go_sem, hr, hl]) rfl ⟨rfl, (below_set8 HB.out _ (by omega) _ _ _ _ _ _ _ _).alloc (by simp; omega) _⟩

end Go.Proofs.Ytbngaajhdaciaaa

/- Eight cells stored at once; a block below a change. -/
set_option linter.unusedVariables false
set_option linter.unusedSimpArgs false
set_option maxRecDepth 8000
namespace Go.Proofs.Ytbngaajhdaciaaa
open Go.RowKit Plain

theorem set8_same (w : World) (B : Nat) (f g : Nat → Nat) (h : LiesF w B g) : LiesF ((((((((w.setCell ⟨B, 0, none⟩ (.int .u64 (f 0 : Nat))).setCell ⟨B, 1, none⟩ (.int .u64 (f 1 : Nat))).setCell ⟨B, 2, none⟩ (.int .u64 (f 2 : Nat))).setCell ⟨B, 3, none⟩ (.int .u64 (f 3 : Nat))).setCell ⟨B, 4, none⟩ (.int .u64 (f 4 : Nat))).setCell ⟨B, 5, none⟩ (.int .u64 (f 5 : Nat))).setCell ⟨B, 6, none⟩ (.int .u64 (f 6 : Nat))).setCell ⟨B, 7, none⟩ (.int .u64 (f 7 : Nat))) B f := by
  have h0 := h.1 0 (by decide)
  have h1 := h.1 1 (by decide)
  have h2 := h.1 2 (by decide)
  have h3 := h.1 3 (by decide)
  have h4 := h.1 4 (by decide)
  have h5 := h.1 5 (by decide)
  have h6 := h.1 6 (by decide)
  have h7 := h.1 7 (by decide)
  refine ⟨fun i hi => ?_, by simpa using h.2⟩
  match i, hi with
  | 0, _ => simp [go_sem, h0]
  | 1, _ => simp [go_sem, h1]
  | 2, _ => simp [go_sem, h2]
  | 3, _ => simp [go_sem, h3]
  | 4, _ => simp [go_sem, h4]
  | 5, _ => simp [go_sem, h5]
  | 6, _ => simp [go_sem, h6]
  | 7, _ => simp [go_sem, h7]

theorem lies_box {w w' : World} {b B : Nat} {f : Nat → Nat} (h : LiesF w b f) (hb : Below B w w') (hlt : b < B) : LiesF w' b f :=
  ⟨fun i hi => (hb.cell (p := ⟨b, i, none⟩) hlt).trans (h.1 i hi), Nat.lt_of_lt_of_le h.2 hb.size⟩

end Go.Proofs.Ytbngaajhdaciaaa

