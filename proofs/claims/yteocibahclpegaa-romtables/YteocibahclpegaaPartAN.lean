/- Contracts and laws: WideM, WideN, WideO, WideP, RfA. -/
import Derived.Test.YteocibahclpegaaPartAJ
import Derived.WalkKit
import Derived.ProofKit
import Derived.OpenShut
import Derived.Test.YteocibahclpegaaPartAG
import Derived.Test.YteocibahclpegaaPartAB
import Derived.Test.YteocibahclpegaaPartAL
/- A wide that is handed in, opened. -/
set_option linter.unusedVariables false
set_option linter.unusedSimpArgs false
set_option maxRecDepth 8000
namespace Go.Proofs.Yteocibahclpegaa
open Go.ChangeShapes Go.WideShapes Go.ChangeAt Go.RowKit Plain

theorem wide_of_cells (cs : Array Value) (hs : cs.size = 8) (h : ∀ i, i < 8 → ∃ n : Nat, n < 18446744073709551616 ∧ cs.toList[i]? = some (.int .u64 (n : Nat))) : ∃ x, x < QQ ∧ cs = #[.int .u64 (dgl (x) 0 : Nat), .int .u64 (dgl (x) 1 : Nat), .int .u64 (dgl (x) 2 : Nat), .int .u64 (dgl (x) 3 : Nat), .int .u64 (dgl (x) 4 : Nat), .int .u64 (dgl (x) 5 : Nat), .int .u64 (dgl (x) 6 : Nat), .int .u64 (dgl (x) 7 : Nat)] := by
  have hf : ∃ f : Nat → Nat, ∀ i, i < 8 → f i < 18446744073709551616 ∧ cs.toList[i]? = some (.int .u64 (f i : Nat)) :=
    ⟨fun i => if hi : i < 8 then Classical.choose (h i hi) else 0, fun i hi => by simp only [dif_pos hi]; exact Classical.choose_spec (h i hi)⟩
  obtain ⟨f, hf⟩ := hf
  have hlt : ∀ i, dg ((List.range 8).map f) i < 18446744073709551616 := by
    intro i
    rcases Nat.lt_or_ge i 8 with hi | hi
    · simp [dg, hi]; exact (hf i hi).1
    · rw [getD_past _ _ (by simpa using hi)]; decide
  have hd := val_dig (β := 18446744073709551616) (by decide) _ hlt
  have hx : val 18446744073709551616 ((List.range 8).map f) < QQ := by
    have := hd.1
    simpa [QQ] using this
  generalize val 18446744073709551616 ((List.range 8).map f) = x at *
  have hdg : ∀ i, i < 8 → f i = dgl x i := by
    intro i hi
    have h2 := hd.2 i
    have : dg ((List.range 8).map f) i = f i := by simp [dg, hi]
    rw [← this, h2]; rfl
  refine ⟨x, hx, ?_⟩
  apply Array.ext'
  apply List.ext_getElem?
  intro i
  rcases Nat.lt_or_ge i 8 with hi | hi
  · rw [(hf i hi).2, hdg i hi]
    match i, hi with
    | 0, _ => rfl
    | 1, _ => rfl
    | 2, _ => rfl
    | 3, _ => rfl
    | 4, _ => rfl
    | 5, _ => rfl
    | 6, _ => rfl
    | 7, _ => rfl
  · rw [List.getElem?_eq_none (by simpa [hs] using hi), List.getElem?_eq_none (by simpa using hi)]

theorem wide_of_trod {H : Type} {enc : TypeId × Value → H} {W : World} {r : Reach} {b0 base : Nat} {sp : Nat → Bool} {held : Bool} {v : Value} {d : DataW H} {ps : List MemPlace}
    (hval : Value.okWide Try.prog W r b0 32 v) (hd : DataW.Trod enc Try.prog W base sp held 32 v d ps) : ∃ x, x < QQ ∧ v = .agg #[.int .u64 (dgl (x) 0 : Nat), .int .u64 (dgl (x) 1 : Nat), .int .u64 (dgl (x) 2 : Nat), .int .u64 (dgl (x) 3 : Nat), .int .u64 (dgl (x) 4 : Nat), .int .u64 (dgl (x) 5 : Nat), .int .u64 (dgl (x) 6 : Nat), .int .u64 (dgl (x) 7 : Nat)] := by
  simp only [Value.okWide, Try.underlying32] at hval
  obtain ⟨cs, rfl, hsz, _⟩ := hval
  have hc : Try.prog.cellsOf 32 = 8 := by kernel_rfl
  have hc1 : Try.prog.cellsOf 24 = 1 := by kernel_rfl
  rw [hc] at hsz
  obtain ⟨fuel, hf⟩ := hd
  obtain ⟨xs, m, _, _, _, hl, hget⟩ := DataW.trod_array Try.underlying32 hf
  rw [hc1] at hget
  obtain ⟨x, hx, e⟩ := wide_of_cells cs hsz (fun i hi => by
    have h1 := hget i hi
    rw [List.getElem?_eq_getElem (by omega)] at h1
    obtain ⟨a, ea, _, wa⟩ := DataW.trod_int Try.underlying24 h1
    obtain ⟨n, rfl, hn⟩ := u64_nat wa
    refine ⟨n, hn, ?_⟩
    simp only [Value.cells, Nat.mul_one] at ea
    have := congrArg (fun l => l[0]?) ea
    simpa [List.getElem?_take, List.getElem?_drop] using this)
  exact ⟨x, hx, by rw [e]⟩

end Go.Proofs.Yteocibahclpegaa

/- Contracts: radicandref02.Power, Whole, Minus. -/
set_option linter.unusedVariables false
set_option linter.unusedSimpArgs false
set_option maxRecDepth 8000
namespace Go.Proofs.Yteocibahclpegaa
open Go.RowKit Plain

end Go.Proofs.Yteocibahclpegaa

/- Contracts: wide.Neg; wide.Shr. -/
set_option linter.unusedVariables false
set_option linter.unusedSimpArgs false
set_option maxRecDepth 8000
namespace Go.Proofs.Yteocibahclpegaa
open Go.RowKit Plain

end Go.Proofs.Yteocibahclpegaa

/- Eight cells stored at once; a block below a change. -/
set_option linter.unusedVariables false
set_option linter.unusedSimpArgs false
set_option maxRecDepth 8000
namespace Go.Proofs.Yteocibahclpegaa
open Go.RowKit Plain

theorem set8_same (w : World) (B : Nat) (f g : Nat → Nat) (h : LiesF w B g) : LiesF ((((((((w.setCell ⟨B, 0, none⟩ (.int .u64 (f 0 : Nat))).setCell ⟨B, 1, none⟩ (.int .u64 (f 1 : Nat))).setCell ⟨B, 2, none⟩ (.int .u64 (f 2 : Nat))).setCell ⟨B, 3, none⟩ (.int .u64 (f 3 : Nat))).setCell ⟨B, 4, none⟩ (.int .u64 (f 4 : Nat))).setCell ⟨B, 5, none⟩ (.int .u64 (f 5 : Nat))).setCell ⟨B, 6, none⟩ (.int .u64 (f 6 : Nat))).setCell ⟨B, 7, none⟩ (.int .u64 (f 7 : Nat))) B f := by
  have h0 := h.1 0 (by decide)
  have h1 := h.1 1 (by decide)
  have h2 := h.1 2 (by decide)
  have h3 := h.1 3 (by decide)
  have h4 := h.1 4 (by decide)
  have h5 := h.1 5 (by decide)
  have h6 := h.1 6 (by decide)
  have h7 := h.1 7 (by decide)
  refine ⟨fun i hi => ?_, by simpa using h.2⟩
  match i, hi with
  | 0, _ => simp [go_sem, h0]
  | 1, _ => simp [go_sem, h1]
  | 2, _ => simp [go_sem, h2]
  | 3, _ => simp [go_sem, h3]
  | 4, _ => simp [go_sem, h4]
  | 5, _ => simp [go_sem, h5]
  | 6, _ => simp [go_sem, h6]
  | 7, _ => simp [go_sem, h7]

theorem lies_box {w w' : World} {b B : Nat} {f : Nat → Nat} (h : LiesF w b f) (hb : Below B w w') (hlt : b < B) : LiesF w' b f :=
  ⟨fun i hi => (hb.cell (p := ⟨b, i, none⟩) hlt).trans (h.1 i hi), Nat.lt_of_lt_of_le h.2 hb.size⟩

end Go.Proofs.Yteocibahclpegaa

/- Contracts: radicandref17.Recip, Root; radicandref18.Away, Within; the first place of a big number. -/
set_option linter.unusedVariables false
set_option linter.unusedSimpArgs false
set_option maxRecDepth 8000
namespace Go.Proofs.Yteocibahclpegaa
open Go.RowKit Plain

theorem recip17_no (i : Int) (h : i < 0 ∨ 63 < i) (w : World) : Calls Try.prog 12 #[.int .i64 i] w fun e w' => e = .returned (.tuple #[.int .u64 0, .bool false]) ∧ w' = w := by
  go_enter Try.func12, Try.ntmps12
  rcases h with h | h
  · go_wp2
    exact bodyPost_ret (v := .tuple #[.int .u64 0, .bool false]) (by simp [results, Try.results12, go_sem]) rfl ⟨rfl, rfl⟩
  · have h0 : ¬ i < 0 := by omega
    go_wp2
    exact bodyPost_ret (v := .tuple #[.int .u64 0, .bool false]) (by simp [results, Try.results12, go_sem]) rfl ⟨rfl, rfl⟩
theorem recip17_walk (i r : Nat) (t m : Int) (h : i < 64) (ht : IntKind.i64.wrap (2 * (i : Int)) = t) (hm : IntKind.i64.wrap (129 + t) = m) (hm0 : ¬ m = 0) (hm1 : (m == 0) = false) (hq : (131072 : Int).tdiv m = (r : Int)) (hr : r ≤ 2000) (w : World) :
    Calls Try.prog 12 #[.int .i64 (i : Nat)] w fun e w' => e = .returned (.tuple #[.int .u64 (r : Nat), .bool true]) ∧ w' = w := by
  have h0 : ¬ (i : Int) < 0 := by omega
  have h1 : ¬ 63 < (i : Int) := by omega
  have hc : IntKind.u64.wrap (r : Int) = (r : Int) := by rw [IntKind.wrap_u64]; omega
  have hc2 : IntKind.i64.wrap (r : Int) = (r : Int) := by rw [IntKind.wrap_i64]; omega
  go_enter Try.func12, Try.ntmps12
  go_wp2
  exact bodyPost_ret (v := .tuple #[.int .u64 (r : Nat), .bool true]) (by simp [results, Try.results12, go_sem]) rfl ⟨rfl, rfl⟩
theorem recip17_yes (i : Nat) (h : i < 64) (w : World) : Calls Try.prog 12 #[.int .i64 (i : Nat)] w fun e w' => e = .returned (.tuple #[.int .u64 (rcN i : Nat), .bool true]) ∧ w' = w := by
  have hb := rcN_all i h
  refine recip17_walk i (rcN i) (2 * (i : Int)) (129 + 2 * (i : Int)) h (by rw [IntKind.wrap_i64]; omega) (by rw [IntKind.wrap_i64]; omega) (by omega) (by rw [beq_eq_false_iff_ne]; omega) ?_ (by omega) w
  rw [Int.tdiv_eq_ediv_of_nonneg (by decide)]
  unfold rcN
  have e : ((129 + 2 * i : Nat) : Int) = 129 + 2 * (i : Int) := by omega
  rw [Int.natCast_ediv, e]
  rfl

theorem root17_no (i : Int) (h : i < 32 ∨ 127 < i) (w : World) : Calls Try.prog 13 #[.int .i64 i] w fun e w' => e = .returned (.tuple #[.int .u64 0, .bool false]) ∧ w' = w := by
  go_enter Try.func13, Try.ntmps13
  rcases h with h | h
  · go_wp2
    exact bodyPost_ret (v := .tuple #[.int .u64 0, .bool false]) (by simp [results, Try.results13, go_sem]) rfl ⟨rfl, rfl⟩
  · have h0 : ¬ i < 32 := by omega
    go_wp2
    exact bodyPost_ret (v := .tuple #[.int .u64 0, .bool false]) (by simp [results, Try.results13, go_sem]) rfl ⟨rfl, rfl⟩
/-- What the loop adds. -/
def kkN (c : Nat) : Nat := if c = 0 then 0 else 2 ^ (c - 1)
set_option maxHeartbeats 2000000 in
theorem root17_walk (i q S : Nat) (t m : Int) (h : 32 ≤ i) (h2 : i ≤ 127) (ht : IntKind.i64.wrap (2 * (i : Int)) = t) (hm : IntKind.i64.wrap (t + 1) = m) (hm0 : ¬ m = 0) (hm1 : (m == 0) = false) (hq : (67108864 : Int).tdiv m = (q : Int)) (hqb : q ≤ 67108864) (hS : S < 2 ^ 13) (hs : ∀ y, y ^ 2 ≤ q ↔ y ≤ S) (w : World) :
    Calls Try.prog 13 #[.int .i64 (i : Nat)] w fun e w' => e = .returned (.tuple #[.int .u64 (S : Nat), .bool true]) ∧ w' = w := by
  have h0 : ¬ (i : Int) < 32 := by omega
  have h1 : ¬ 127 < (i : Int) := by omega
  have hc2 : IntKind.i64.wrap (q : Int) = (q : Int) := by rw [IntKind.wrap_i64]; omega
  have HS := hide hs
  have HSB := hide hS
  clear hs hS
  go_enter Try.func13, Try.ntmps13
  go_wp2
  go_loopw [5, 6] (fun s k wr => ∃ c : Nat, c ≤ 13 ∧ s = .int .i64 ((hiN S c : Nat) : Int) ∧ k = .int .i64 ((kkN c : Nat) : Int) ∧ wr = w)
    (fun _ k _ => (intOf k).toNat)
  case atStart => exact ⟨13, by omega, by rw [hiN_top HSB.out]; rfl, rfl, rfl⟩
  case round =>
    obtain ⟨c, hc, rfl, rfl, rfl⟩ := hrel
    rcases Nat.eq_zero_or_pos c with rfl | hc0
    · have hk0 : kkN 0 = 0 := rfl
      have hz := hiN_zero S
      rw [hk0, hz]
      have hSu : IntKind.u64.wrap (S : Int) = (S : Int) := by have := HSB.out; rw [IntKind.wrap_u64]; omega
      go_wp2
      exact bodyPost_ret (v := .tuple #[.int .u64 (S : Nat), .bool true]) (by simp [results, Try.results13, go_sem]) rfl ⟨rfl, rfl⟩
    · obtain ⟨d, rfl⟩ : ∃ d, c = d + 1 := ⟨c - 1, by omega⟩
      have hkk : kkN (d + 1) = 2 ^ d := rfl
      have hk2 : ((2 ^ d : Nat) : Int).tdiv 2 = ((kkN d : Nat) : Int) := by
        rw [Int.tdiv_eq_ediv_of_nonneg (by omega)]
        rcases Nat.eq_zero_or_pos d with rfl | hd
        · rfl
        · obtain ⟨e, rfl⟩ : ∃ e, d = e + 1 := ⟨d - 1, by omega⟩
          have : kkN (e + 1) = 2 ^ e := rfl
          rw [this, Nat.pow_succ]
          omega
      have hpd : 0 < 2 ^ d := Nat.two_pow_pos d
      have hpd2 : 2 ^ d ≤ 2 ^ 12 := Nat.pow_le_pow_right (by decide) (by omega)
      have hh := hiN_le S (d + 1)
      have hsb := HSB.out
      have hri := root_iff (c := d) HS.out
      have hon := hiN_on (q := S) (c := d)
      have hoff := hiN_off (q := S) (c := d)
      have hbit := bitN_cases S d
      rw [hkk]
      generalize hiN S (d + 1) = s0 at *
      obtain ⟨s1, hs1⟩ : ∃ s1, hiN S d = s1 := ⟨_, rfl⟩
      obtain ⟨k2, hkd⟩ : ∃ k2, kkN d = k2 := ⟨_, rfl⟩
      rw [hs1] at hon hoff
      rw [hkd] at hk2
      have HS1 := hide hs1
      have HK2 := hide hkd
      clear hs1 hkd
      generalize 2 ^ d = kd at *
      have hk2b : k2 ≤ 4096 := by
        rw [Int.tdiv_eq_ediv_of_nonneg (by omega)] at hk2
        omega
      have hlt : k2 < kd := by
        rw [Int.tdiv_eq_ediv_of_nonneg (by omega)] at hk2
        omega
      have hkp : (0 : Int) < (kd : Int) := by omega
      have hw1 : IntKind.i64.wrap ((s0 : Int) + (kd : Int)) = ((s0 + kd : Nat) : Int) := by rw [IntKind.wrap_i64]; omega
      obtain ⟨u, hu⟩ : ∃ u : Nat, s0 + kd = u := ⟨_, rfl⟩
      have hub : u ≤ 16384 := by omega
      have hsq : u * u ≤ 16384 * 16384 := Nat.mul_le_mul hub hub
      rw [hu, Nat.pow_two] at hri
      rw [hu] at hw1 hon
      obtain ⟨p, hp⟩ : ∃ p : Nat, u * u = p := ⟨_, rfl⟩
      rw [hp] at hsq hri
      have hw2 : IntKind.i64.wrap ((u : Int) * (u : Int)) = (p : Int) := by
        rw [← Int.natCast_mul, hp, IntKind.wrap_i64]
        omega
      have hw3 : IntKind.i64.wrap (k2 : Int) = (k2 : Int) := by rw [IntKind.wrap_i64]; omega
      clear hp
      by_cases hle : p ≤ q
      · have hle2 : (p : Int) ≤ (q : Int) := by omega
        have he := hon (hri.1 hle)
        clear hri hon hoff hbit HS HSB
        go_wp2
        go_roundw
        case rel => exact ⟨d, by omega, by rw [HS1.out, he], by rw [HK2.out], by first | rfl | trivial⟩
        case measure => simp [intOf]; omega
      · have hle2 : ¬ (p : Int) ≤ (q : Int) := by omega
        have he := hoff (by rcases hbit with h | h
                            · exact h
                            · exact absurd (hri.2 h) hle)
        clear hri hon hoff hbit HS HSB
        go_wp2
        go_roundw
        case rel => exact ⟨d, by omega, by rw [HS1.out, he], by rw [HK2.out], by first | rfl | trivial⟩
        case measure => simp [intOf]; omega
theorem root17_yes (i : Nat) (h : 32 ≤ i) (h2 : i < 128) (w : World) : Calls Try.prog 13 #[.int .i64 (i : Nat)] w fun e w' => e = .returned (.tuple #[.int .u64 (rtN i : Nat), .bool true]) ∧ w' = w := by
  obtain ⟨a, b, -, -, -, c⟩ := rtN_all (i - 32) (by omega)
  rw [show 32 + (i - 32) = i by omega] at a b c
  have hq : 67108864 / (2 * i + 1) ≤ 67108864 := Nat.div_le_self _ _
  refine root17_walk i (67108864 / (2 * i + 1)) (rtN i) (2 * (i : Int)) (2 * (i : Int) + 1) h (by omega) (by rw [IntKind.wrap_i64]; omega) (by rw [IntKind.wrap_i64]; omega) (by omega) (by rw [beq_eq_false_iff_ne]; omega) ?_ hq (Nat.lt_of_le_of_lt c (by decide)) (fun y => ?_) w
  · have e : ((2 * i + 1 : Nat) : Int) = 2 * (i : Int) + 1 := by omega
    rw [Int.tdiv_eq_ediv_of_nonneg (by decide), Int.natCast_ediv, e]
    rfl
  · rw [Nat.pow_two]
    constructor
    · intro hy
      rcases Nat.lt_or_ge (rtN i) y with g | g
      · have := Nat.mul_le_mul (show rtN i + 1 ≤ y from g) (show rtN i + 1 ≤ y from g)
        omega
      · exact g
    · intro hy
      exact Nat.le_trans (Nat.mul_le_mul hy hy) a

end Go.Proofs.Yteocibahclpegaa

