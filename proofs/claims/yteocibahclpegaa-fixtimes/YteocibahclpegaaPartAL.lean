/- Contracts and laws: WideM, WideN, WideO, WideP, RfA, FixG. -/
import Derived.Test.YteocibahclpegaaPartAK
import Derived.WalkKit
import Derived.ProofKit
import Derived.OpenShut
import Derived.Test.YteocibahclpegaaPartAH
import Derived.Test.YteocibahclpegaaPartAA
import Derived.Test.YteocibahclpegaaPartAB
/- A wide that is handed in, opened. -/
set_option linter.unusedVariables false
set_option linter.unusedSimpArgs false
set_option maxRecDepth 8000
namespace Go.Proofs.Yteocibahclpegaa
open Go.ChangeShapes Go.WideShapes Go.ChangeAt Go.RowKit Plain

theorem wide_of_cells (cs : Array Value) (hs : cs.size = 8) (h : ∀ i, i < 8 → ∃ n : Nat, n < 18446744073709551616 ∧ cs.toList[i]? = some (.int .u64 (n : Nat))) : ∃ x, x < QQ ∧ cs = #[.int .u64 (dgl (x) 0 : Nat), .int .u64 (dgl (x) 1 : Nat), .int .u64 (dgl (x) 2 : Nat), .int .u64 (dgl (x) 3 : Nat), .int .u64 (dgl (x) 4 : Nat), .int .u64 (dgl (x) 5 : Nat), .int .u64 (dgl (x) 6 : Nat), .int .u64 (dgl (x) 7 : Nat)] := by
  have hf : ∃ f : Nat → Nat, ∀ i, i < 8 → f i < 18446744073709551616 ∧ cs.toList[i]? = some (.int .u64 (f i : Nat)) :=
    ⟨fun i => if hi : i < 8 then Classical.choose (h i hi) else 0, fun i hi => by simp only [dif_pos hi]; exact Classical.choose_spec (h i hi)⟩
  obtain ⟨f, hf⟩ := hf
  have hlt : ∀ i, dg ((List.range 8).map f) i < 18446744073709551616 := by
    intro i
    rcases Nat.lt_or_ge i 8 with hi | hi
    · simp [dg, hi]; exact (hf i hi).1
    · rw [getD_past _ _ (by simpa using hi)]; decide
  have hd := val_dig (β := 18446744073709551616) (by decide) _ hlt
  have hx : val 18446744073709551616 ((List.range 8).map f) < QQ := by
    have := hd.1
    simpa [QQ] using this
  generalize val 18446744073709551616 ((List.range 8).map f) = x at *
  have hdg : ∀ i, i < 8 → f i = dgl x i := by
    intro i hi
    have h2 := hd.2 i
    have : dg ((List.range 8).map f) i = f i := by simp [dg, hi]
    rw [← this, h2]; rfl
  refine ⟨x, hx, ?_⟩
  apply Array.ext'
  apply List.ext_getElem?
  intro i
  rcases Nat.lt_or_ge i 8 with hi | hi
  · rw [(hf i hi).2, hdg i hi]
    match i, hi with
    | 0, _ => rfl
    | 1, _ => rfl
    | 2, _ => rfl
    | 3, _ => rfl
    | 4, _ => rfl
    | 5, _ => rfl
    | 6, _ => rfl
    | 7, _ => rfl
  · rw [List.getElem?_eq_none (by simpa [hs] using hi), List.getElem?_eq_none (by simpa using hi)]

theorem wide_of_trod {H : Type} {enc : TypeId × Value → H} {W : World} {r : Reach} {b0 base : Nat} {sp : Nat → Bool} {held : Bool} {v : Value} {d : DataW H} {ps : List MemPlace}
    (hval : Value.okWide Try.prog W r b0 32 v) (hd : DataW.Trod enc Try.prog W base sp held 32 v d ps) : ∃ x, x < QQ ∧ v = .agg #[.int .u64 (dgl (x) 0 : Nat), .int .u64 (dgl (x) 1 : Nat), .int .u64 (dgl (x) 2 : Nat), .int .u64 (dgl (x) 3 : Nat), .int .u64 (dgl (x) 4 : Nat), .int .u64 (dgl (x) 5 : Nat), .int .u64 (dgl (x) 6 : Nat), .int .u64 (dgl (x) 7 : Nat)] := by
  simp only [Value.okWide, Try.underlying32] at hval
  obtain ⟨cs, rfl, hsz, _⟩ := hval
  have hc : Try.prog.cellsOf 32 = 8 := by kernel_rfl
  have hc1 : Try.prog.cellsOf 24 = 1 := by kernel_rfl
  rw [hc] at hsz
  obtain ⟨fuel, hf⟩ := hd
  obtain ⟨xs, m, _, _, _, hl, hget⟩ := DataW.trod_array Try.underlying32 hf
  rw [hc1] at hget
  obtain ⟨x, hx, e⟩ := wide_of_cells cs hsz (fun i hi => by
    have h1 := hget i hi
    rw [List.getElem?_eq_getElem (by omega)] at h1
    obtain ⟨a, ea, _, wa⟩ := DataW.trod_int Try.underlying24 h1
    obtain ⟨n, rfl, hn⟩ := u64_nat wa
    refine ⟨n, hn, ?_⟩
    simp only [Value.cells, Nat.mul_one] at ea
    have := congrArg (fun l => l[0]?) ea
    simpa [List.getElem?_take, List.getElem?_drop] using this)
  exact ⟨x, hx, by rw [e]⟩

end Go.Proofs.Yteocibahclpegaa

/- Contracts: radicandref02.Power, Whole, Minus. -/
set_option linter.unusedVariables false
set_option linter.unusedSimpArgs false
set_option maxRecDepth 8000
namespace Go.Proofs.Yteocibahclpegaa
open Go.RowKit Plain

theorem refPower_any (s P : Nat) (hs : s ≤ 100000) (hP : 2 ^ s = P) (w : World) :
    Calls Try.prog 38 #[.int .i64 s] w fun e w' => ∃ v, e = .returned v ∧ BigV w' v P (s / 32 + 3) ∧ Below w.heap.size w w' := by
  have HS := hide (fun w => small_any 1 (by decide) w)
  have HL := hide (fun v w h => refShl_any 1 2 s v w h (by decide) hs)
  rw [Nat.one_mul, hP] at HL
  clear hP
  go_enter Try.func38, Try.ntmps38
  go_wp2_with fail
  refine (HS.out _).mono ?_
  rintro e w1 ⟨v1, rfl, h1, hb1⟩
  go_wp2_with fail
  refine (HL.out _ _ h1).mono ?_
  rintro e w2 ⟨v2, rfl, h2, hb2⟩
  go_wp2
  go_ret
  exact ⟨_, rfl, h2, below_trans hb1 hb2⟩

theorem refPower_int (s P : Nat) (x : Int) (hs : s ≤ 100000) (hP : 2 ^ s = P) (hx : x = (s : Int)) (w : World) :
    Calls Try.prog 38 #[.int .i64 x] w fun e w' => ∃ v, e = .returned v ∧ BigV w' v P (s / 32 + 3) ∧ Below w.heap.size w w' := by
  subst hx; exact refPower_any s P hs hP w

theorem pow_pos' (s P : Nat) (h : 2 ^ s = P) : 0 < P := by rw [← h]; exact Nat.two_pow_pos s
theorem qq_pow (s : Nat) (hs : s = 64 * 8) : 2 ^ s = QQ := by unfold QQ; rw [LLpow, hs]
theorem refWhole_any (w : World) :
    Calls Try.prog 36 #[] w fun e w' => ∃ v, e = .returned v ∧ BigV w' v QQ 19 ∧ Below w.heap.size w w' := by
  have HP := hide (fun w => refPower_int 512 QQ 512 (by decide) (qq_pow 512 rfl) rfl w)
  go_enter Try.func36, Try.ntmps36
  go_wp2_with fail
  refine (HP.out _).mono ?_
  rintro e w1 ⟨v1, rfl, h1, hb1⟩
  go_wp2
  go_ret
  exact ⟨_, rfl, h1, hb1⟩

end Go.Proofs.Yteocibahclpegaa

/- Contracts: wide.Neg; wide.Shr. -/
set_option linter.unusedVariables false
set_option linter.unusedSimpArgs false
set_option maxRecDepth 8000
namespace Go.Proofs.Yteocibahclpegaa
open Go.RowKit Plain

end Go.Proofs.Yteocibahclpegaa

/- Eight cells stored at once; a block below a change. -/
set_option linter.unusedVariables false
set_option linter.unusedSimpArgs false
set_option maxRecDepth 8000
namespace Go.Proofs.Yteocibahclpegaa
open Go.RowKit Plain

theorem set8_same (w : World) (B : Nat) (f g : Nat → Nat) (h : LiesF w B g) : LiesF ((((((((w.setCell ⟨B, 0, none⟩ (.int .u64 (f 0 : Nat))).setCell ⟨B, 1, none⟩ (.int .u64 (f 1 : Nat))).setCell ⟨B, 2, none⟩ (.int .u64 (f 2 : Nat))).setCell ⟨B, 3, none⟩ (.int .u64 (f 3 : Nat))).setCell ⟨B, 4, none⟩ (.int .u64 (f 4 : Nat))).setCell ⟨B, 5, none⟩ (.int .u64 (f 5 : Nat))).setCell ⟨B, 6, none⟩ (.int .u64 (f 6 : Nat))).setCell ⟨B, 7, none⟩ (.int .u64 (f 7 : Nat))) B f := by
  have h0 := h.1 0 (by decide)
  have h1 := h.1 1 (by decide)
  have h2 := h.1 2 (by decide)
  have h3 := h.1 3 (by decide)
  have h4 := h.1 4 (by decide)
  have h5 := h.1 5 (by decide)
  have h6 := h.1 6 (by decide)
  have h7 := h.1 7 (by decide)
  refine ⟨fun i hi => ?_, by simpa using h.2⟩
  match i, hi with
  | 0, _ => simp [go_sem, h0]
  | 1, _ => simp [go_sem, h1]
  | 2, _ => simp [go_sem, h2]
  | 3, _ => simp [go_sem, h3]
  | 4, _ => simp [go_sem, h4]
  | 5, _ => simp [go_sem, h5]
  | 6, _ => simp [go_sem, h6]
  | 7, _ => simp [go_sem, h7]

theorem lies_box {w w' : World} {b B : Nat} {f : Nat → Nat} (h : LiesF w b f) (hb : Below B w w') (hlt : b < B) : LiesF w' b f :=
  ⟨fun i hi => (hb.cell (p := ⟨b, i, none⟩) hlt).trans (h.1 i hi), Nat.lt_of_lt_of_le h.2 hb.size⟩

end Go.Proofs.Yteocibahclpegaa

/- Contracts: radicandref17.Recip, Root; radicandref18.Away, Within; the first place of a big number. -/
set_option linter.unusedVariables false
set_option linter.unusedSimpArgs false
set_option maxRecDepth 8000
namespace Go.Proofs.Yteocibahclpegaa
open Go.RowKit Plain

/-- How far two are away from each other. -/
def awN (a b : Nat) : Nat := if a < b then b - a else a - b
theorem away18_any (n m K L : Nat) (va vb : Value) (w : World) (ha : BigV w va n K) (hb : BigV w vb m L) (hK : K ≤ 1000000) (hL : L ≤ 1000000) :
    Calls Try.prog 29 #[va, vb] w fun e w' => ∃ v, e = .returned v ∧ BigV w' v (awN n m) (max K L) ∧ Below w.heap.size w w' := by
  have HA := hide ha
  have HB := hide hb
  have HC := hide (cmp_any n m K L va vb w ha hb)
  obtain ⟨c, hc⟩ : ∃ c, cmpN n m = c := ⟨_, rfl⟩
  rw [hc] at HC
  have hcc : (c < 0 ∧ n < m) ∨ (¬ c < 0 ∧ m ≤ n) := by
    rw [← hc]
    unfold cmpN
    rcases Nat.lt_trichotomy n m with h | h | h
    · exact .inl ⟨by rw [if_pos h]; decide, h⟩
    · exact .inr ⟨by rw [if_neg (by omega), if_neg (by omega)]; decide, by omega⟩
    · exact .inr ⟨by rw [if_neg (by omega), if_pos h]; decide, by omega⟩
  clear ha hb hc
  go_enter Try.func29, Try.ntmps29
  go_wp2_with fail
  refine HC.out.mono ?_
  rintro e w1 ⟨rfl, hw⟩
  subst w1
  rcases hcc with ⟨h1, h2⟩ | ⟨h1, h2⟩
  · go_wp2_with fail
    refine (refSub_any m n L K _ _ _ HB.out HA.out hL (Nat.le_of_lt h2)).mono ?_
    rintro e w2 ⟨v, rfl, hv, hb2⟩
    have hn : awN n m = m - n := if_pos h2
    go_wp2
    exact bodyPost_ret (v := v) (by simp [results, Try.results29, go_sem]) rfl ⟨_, rfl, by rw [hn]; exact hv.mono (by omega), hb2⟩
  · go_wp2_with fail
    refine (refSub_any n m K L _ _ _ HA.out HB.out hK h2).mono ?_
    rintro e w2 ⟨v, rfl, hv, hb2⟩
    have hn : awN n m = n - m := if_neg (by omega)
    go_wp2
    exact bodyPost_ret (v := v) (by simp [results, Try.results29, go_sem]) rfl ⟨_, rfl, by rw [hn]; exact hv.mono (by omega), hb2⟩
theorem within18_no (va : Value) (m : Int) (hm : m < 0) (w : World) : Calls Try.prog 30 #[va, .int .i64 m] w fun e w' => e = .returned (.bool false) ∧ Below w.heap.size w w' := by
  have h : ¬ 0 ≤ m := by omega
  go_enter Try.func30, Try.ntmps30
  go_wp2
  exact bodyPost_ret (v := .bool false) (by simp [results, Try.results30, go_sem]) rfl ⟨rfl, Below.refl _ _⟩
theorem within18_yes (n K m : Nat) (va : Value) (w : World) (ha : BigV w va n K) (hm : m ≤ 9223372036854775807) : Calls Try.prog 30 #[va, .int .i64 (m : Nat)] w fun e w' => e = .returned (.bool (decide (n ≤ m))) ∧ Below w.heap.size w w' := by
  have HA := hide ha
  have h : (0 : Int) ≤ (m : Int) := by omega
  have hu : IntKind.u64.wrap (m : Int) = (m : Int) := by rw [IntKind.wrap_u64]; omega
  have HS := hide (fun w => small_any m (by omega) w)
  obtain ⟨c, hc⟩ : ∃ c, cmpN n m = c := ⟨_, rfl⟩
  have HCC := hide hc
  have hcc : decide (c ≤ 0) = decide (n ≤ m) := by
    rw [decide_eq_decide, ← hc]
    unfold cmpN
    rcases Nat.lt_trichotomy n m with h | h | h
    · rw [if_pos h]; constructor <;> intro <;> omega
    · rw [if_neg (by omega), if_neg (by omega)]; constructor <;> intro <;> omega
    · rw [if_neg (by omega), if_pos h]; constructor <;> intro <;> omega
  rw [← hcc]
  clear ha hc hcc
  go_enter Try.func30, Try.ntmps30
  go_wp2_with fail
  refine (HS.out _).mono ?_
  rintro e w1 ⟨v1, rfl, hv1, hb1⟩
  have HC := hide (cmp_any n m K 2 va v1 w1 (HA.out.below hb1) hv1)
  rw [HCC.out] at HC
  go_wp2_with fail
  refine HC.out.mono ?_
  rintro e w2 ⟨rfl, hw⟩
  subst w2
  go_wp2
  exact bodyPost_ret (v := .bool (decide (c ≤ 0))) (by simp [results, Try.results30, go_sem]) rfl ⟨rfl, hb1⟩
end Go.Proofs.Yteocibahclpegaa

/- An argument of radicandlaw18's type Guess: what it is made of. -/
set_option linter.unusedVariables false
set_option linter.unusedSimpArgs false
set_option maxRecDepth 8000
namespace Go.Proofs.Yteocibahclpegaa
open Go.RowKit Plain

theorem guess_open {H : Type} {enc : TypeId × Value → H} {W : World} {r : Reach} {b0 base : Nat} {sp : Nat → Bool} {held : Bool} {v : Value} {d : DataW H} {ps : List MemPlace}
    (hval : Value.okWide Try.prog W r b0 47 v) (hd : DataW.Trod enc Try.prog W base sp held 47 v d ps) : ∃ (x : Nat) (raw : Bool) (b m : Int), (x < QQ ∧ (-128 ≤ b ∧ b < 128) ∧ -9223372036854775808 ≤ m ∧ m ≤ 9223372036854775807) ∧ v = .agg #[.int .u64 (dgl x 0 : Nat), .int .u64 (dgl x 1 : Nat), .int .u64 (dgl x 2 : Nat), .int .u64 (dgl x 3 : Nat), .int .u64 (dgl x 4 : Nat), .int .u64 (dgl x 5 : Nat), .int .u64 (dgl x 6 : Nat), .int .u64 (dgl x 7 : Nat), .bool raw, .int .i8 b, .int .i64 m] := by
  obtain ⟨cs, rfl, hsz⟩ := Go.WideShapes.okWide_struct Try.underlying47 hval
  have hC : Try.prog.cellsOf 47 = 11 := by kernel_rfl
  have c1 : Try.prog.cellsOf 3 = 1 := by kernel_rfl
  have c2 : Try.prog.cellsOf 45 = 1 := by kernel_rfl
  have cb : Try.prog.cellsOf 4 = 1 := by kernel_rfl
  have c8 : Try.prog.cellsOf 32 = 8 := by kernel_rfl
  have cu : Try.prog.cellsOf 24 = 1 := by kernel_rfl
  rw [hC] at hsz
  obtain ⟨fuel, hf⟩ := hd
  obtain ⟨xs, n, _, hx, hl, hlen, hfs⟩ := DataW.trod_struct Try.underlying47 hf
  clear hx hl
  obtain ⟨l⟩ := cs
  replace hsz : l.length = 11 := hsz
  match l, hsz with
  | [q0, q1, q2, q3, q4, q5, q6, q7, k0, k1, k2], hsz =>
    match xs, hlen with
    | [y0, y1, y2, y3], _ =>
      have gw : DataW.trod enc Try.prog W base sp held n 32 [q0, q1, q2, q3, q4, q5, q6, q7] = some y0 := hfs 0 _ rfl
      have g0 : DataW.trod enc Try.prog W base sp held n 4 [k0] = some y1 := hfs 1 _ rfl
      have g1 : DataW.trod enc Try.prog W base sp held n 45 [k1] = some y2 := hfs 2 _ rfl
      have g2 : DataW.trod enc Try.prog W base sp held n 3 [k2] = some y3 := hfs 3 _ rfl
      obtain ⟨zs, m, _, _, _, hzl, hget⟩ := DataW.trod_array Try.underlying32 gw
      rw [cu] at hget
      obtain ⟨x, hx, e⟩ := wide_of_cells #[q0, q1, q2, q3, q4, q5, q6, q7] rfl (fun i hi => by
        have h1 := hget i hi
        rw [List.getElem?_eq_getElem (by omega)] at h1
        obtain ⟨a, ea, _, wa⟩ := DataW.trod_int Try.underlying24 h1
        obtain ⟨q, rfl, hq⟩ := u64_nat wa
        refine ⟨q, hq, ?_⟩
        simp only [Nat.mul_one] at ea
        have := congrArg (fun l => l[0]?) ea
        simpa [List.getElem?_take, List.getElem?_drop] using this)
      obtain ⟨a0, e0, _⟩ := DataW.trod_bool Try.underlying4 g0
      simp at e0
      subst e0
      obtain ⟨a1, e1, _, wa1⟩ := DataW.trod_int Try.underlying45 g1
      simp at e1
      subst e1
      obtain ⟨a2, e2, _, wa2⟩ := DataW.trod_int Try.underlying3 g2
      simp at e2
      subst e2
      refine ⟨x, a0, a1, a2, ⟨hx, ?_, i64_bd wa2⟩, ?_⟩
      · simp only [Lit.wf, Bool.and_eq_true, decide_eq_true_eq] at wa1
        have hmin : IntKind.i8.min = -128 := rfl
        have hmax : IntKind.i8.max = 127 := rfl
        omega
      · simp only [Array.mk.injEq, List.cons.injEq, and_true] at e
        obtain ⟨rfl, rfl, rfl, rfl, rfl, rfl, rfl, rfl⟩ := e
        rfl
end Go.Proofs.Yteocibahclpegaa

