/- Contracts and laws: DigK, DigL, DigM. -/
import Derived.Test.YtjklehlkgccmnaaBaseT
/- Contracts: digits.powers. -/
set_option linter.unusedVariables false
set_option linter.unusedSimpArgs false
set_option maxRecDepth 8000
namespace Go.Proofs.Ytjklehlkgccmnaa
open Go.RowKit Plain

/-- The cells of ten's first k powers. -/
def powC : Nat → List Value
  | 0 => []
  | k + 1 => powC k ++ #[.int .u64 ((dgl (10 ^ k)) 0 : Nat), .int .u64 ((dgl (10 ^ k)) 1 : Nat), .int .u64 ((dgl (10 ^ k)) 2 : Nat), .int .u64 ((dgl (10 ^ k)) 3 : Nat), .int .u64 ((dgl (10 ^ k)) 4 : Nat), .int .u64 ((dgl (10 ^ k)) 5 : Nat), .int .u64 ((dgl (10 ^ k)) 6 : Nat), .int .u64 ((dgl (10 ^ k)) 7 : Nat)].toList
theorem powC_len : ∀ k, (powC k).length = k * 8
  | 0 => rfl
  | k + 1 => by
    show (powC k ++ _).length = _
    rw [List.length_append, powC_len k, Nat.succ_mul]
    rfl
theorem powC_get : ∀ (k i j : Nat), i < k → j < 8 → (powC k)[i * 8 + j]? = some (.int .u64 (dgl (10 ^ i) j : Nat))
  | 0, i, j, hi, _ => absurd hi (Nat.not_lt_zero _)
  | k + 1, i, j, hi, hj => by
    show (powC k ++ _)[i * 8 + j]? = _
    rcases Nat.lt_or_ge i k with h | h
    · rw [List.getElem?_append_left (by rw [powC_len]; omega)]
      exact powC_get k i j h hj
    · have : i = k := by omega
      subst this
      rw [List.getElem?_append_right (by rw [powC_len]; omega), powC_len, Nat.add_sub_cancel_left]
      match j, hj with
      | 0, _ | 1, _ | 2, _ | 3, _ | 4, _ | 5, _ | 6, _ | 7, _ => rfl
def lenV : Value → Nat
  | .slice _ n _ => n
  | _ => 0

/-- n is how many digits a number has in tens. -/
def DecN (a n : Nat) : Prop := 0 < n ∧ a < 10 ^ n ∧ (n = 1 ∨ 10 ^ (n - 1) ≤ a)
theorem decN_le {a n : Nat} (h : DecN a n) (ha : a < QQ) : n ≤ 155 := by
  rcases Nat.lt_or_ge 155 n with h1 | h1
  · exfalso
    rcases h.2.2 with h2 | h2
    · omega
    · have h3 : 10 ^ 155 ≤ 10 ^ (n - 1) := Nat.pow_le_pow_right (by decide) (by omega)
      have h4 : QQ ≤ 10 ^ 155 := by decide +kernel
      omega
  · exact h1
theorem decN_ex (a : Nat) : ∃ n, DecN a n := by
  by_cases h0 : a = 0
  · exact ⟨1, by decide, by subst h0; decide, .inl rfl⟩
  · have key : ∀ m, a < 10 ^ m → ∃ n, DecN a n := by
      intro m
      induction m with
      | zero => intro h; rw [Nat.pow_zero] at h; omega
      | succ m ih =>
        intro h
        by_cases h2 : a < 10 ^ m
        · exact ih h2
        · exact ⟨m + 1, by omega, h, .inr (by rw [Nat.add_sub_cancel]; omega)⟩
    exact key a (Nat.lt_pow_self (by decide))
theorem decN_step {a n m : Nat} (h : DecN a n) (hm : m + 1 < n) : 10 ^ (m + 1) ≤ a := by
  rcases h.2.2 with h2 | h2
  · omega
  · exact Nat.le_trans (Nat.pow_le_pow_right (by decide) (by omega)) h2

theorem addr_add0 (g j : Nat) : (⟨g, 0, none⟩ : Addr).add j = ⟨g, j, none⟩ := by
  unfold Addr.add
  split
  · rename_i h; rw [h]
  · rw [Nat.zero_add]

structure PowSt (w : World) (a m : Nat) (v : Value) (W : World) : Prop where
  la : LiesF W w.heap.size (dgl a)
  own : W.ownsRow (w.heap.size + 1) 24 8 v (m + 1) (powC (m + 1))
  bel : Below w.heap.size w W
theorem PowSt.below {w : World} {a m : Nat} {v : Value} {W W' : World} (h : PowSt w a m v W) (hb : Below W.heap.size W W') : PowSt w a m v W' := by
  refine ⟨h.la.below hb, h.own.kept (grownBy_of_below hb none) ?_, below_trans h.bel hb⟩
  cases hv : v.ownBlock <;> simp
theorem PowSt.slice {w : World} {a m : Nat} {v : Value} {W : World} (h : PowSt w a m v W) : ∃ g cap, v = .slice (some ⟨g, 0, none⟩) (m + 1) cap ∧ m + 1 ≤ cap ∧ cap ≤ maxLen ∧ g < W.heap.size ∧ ∀ i j, i < m + 1 → j < 8 → W.cell? ⟨g, i * 8 + j, none⟩ = some (.int .u64 (dgl (10 ^ i) j : Nat)) := by
  have hc := fun g => h.own.cells (g := g)
  have hlt := h.own.lt
  rcases h.own.2 with ⟨_, h0⟩ | ⟨g, cap, cur, rfl, h1, h2, h3, h4, _⟩
  · omega
  · refine ⟨g, cap, rfl, h3, h4, (hlt g rfl).2, fun i j hi hj => ?_⟩
    have := hc g rfl (i * 8 + j) _ (powC_get (m + 1) i j hi hj)
    rw [addr_add0] at this
    exact this
theorem wide_info : (Try.prog.info? 24).map (fun i => (i.zero, i.size, i.bytes)) = some (some (.agg #[.int .u64 0, .int .u64 0, .int .u64 0, .int .u64 0, .int .u64 0, .int .u64 0, .int .u64 0, .int .u64 0]), 8, 64) := by kernel_rfl
theorem wides_under : Try.prog.underlying 61 = some (TypeDesc.slice 24) := by kernel_rfl
theorem cmp_gt {n m : Nat} (h : m < n) : 0 < cmpN n m := by
  unfold cmpN
  rw [if_neg (by omega), if_pos h]
  decide
theorem cmp_nle {n m : Nat} (h : n ≤ m) : ¬ 0 < cmpN n m := by
  unfold cmpN
  split
  · decide
  · rw [if_neg (by omega)]; decide

/-- Ten's first n powers. -/
def powL (n : Nat) : List Nat := (List.range n).map fun i => 10 ^ i

set_option maxHeartbeats 400000 in
theorem powers_any (a n : Nat) (ha : a < QQ) (hn : DecN a n) (w : World) :
    Calls Try.prog 32 #[.agg #[.int .u64 (dgl (a) 0 : Nat), .int .u64 (dgl (a) 1 : Nat), .int .u64 (dgl (a) 2 : Nat), .int .u64 (dgl (a) 3 : Nat), .int .u64 (dgl (a) 4 : Nat), .int .u64 (dgl (a) 5 : Nat), .int .u64 (dgl (a) 6 : Nat), .int .u64 (dgl (a) 7 : Nat)]] w fun e w' => ∃ g cap, e = .returned (.slice (some ⟨g, 0, none⟩) n cap) ∧ n ≤ cap ∧ cap ≤ maxLen ∧ w.heap.size < g ∧ g < w'.heap.size ∧ (∀ i j, i < n → j < 8 → w'.cell? ⟨g, i * 8 + j, none⟩ = some (.int .u64 (dgl (10 ^ i) j : Nat))) ∧ Below w.heap.size w w' := by
  have hnb := decN_le hn ha
  have HN := hide hn
  have HA := hide ha
  obtain ⟨i0, hi, hz0, hz1, hz2⟩ := info_parts wide_info
  have HOF := hide (fun w b hb => wideOf_one w b hb)
  have HSM := hide (fun (x : Nat) (hx : x < QQ) w => prodSmall_any x 10 hx (by decide) w)
  have HCM := hide (fun (x : Nat) (hx : x < QQ) w => wideCmp_any x a hx ha w)
  have HL0 := hide (liesF_new w (dgl a) 24)
  have HB0 := hide (below_allocs w (.cells #[.int .u64 ((dgl a) 0 : Nat), .int .u64 ((dgl a) 1 : Nat), .int .u64 ((dgl a) 2 : Nat), .int .u64 ((dgl a) 3 : Nat), .int .u64 ((dgl a) 4 : Nat), .int .u64 ((dgl a) 5 : Nat), .int .u64 ((dgl a) 6 : Nat), .int .u64 ((dgl a) 7 : Nat)] 24))
  have hn1 := hn.1
  clear hn ha
  go_enter Try.func32, Try.ntmps32
  go_wp2_with fail
  refine (HOF.out _ _ (by simp)).mono ?_
  rintro e w1 ⟨rfl, hb1⟩
  have HS1 : Hid (PowSt w a 0 (.slice (some ⟨w1.heap.size, 0, none⟩) 1 1) (w1.alloc (.cells #[.int .u64 (dgl (1) 0 : Nat), .int .u64 (dgl (1) 1 : Nat), .int .u64 (dgl (1) 2 : Nat), .int .u64 (dgl (1) 3 : Nat), .int .u64 (dgl (1) 4 : Nat), .int .u64 (dgl (1) 5 : Nat), .int .u64 (dgl (1) 6 : Nat), .int .u64 (dgl (1) 7 : Nat)] 24))) := by
    have hsz := hb1.size
    rw [World.size_alloc] at hsz
    refine ⟨(HL0.out.below hb1).below (below_allocs w1 _), ?_, below_trans (below_trans HB0.out hb1) (below_allocs w1 _)⟩
    exact World.ownsRow_lit (base := w.heap.size + 1) (e := 24) (size := 8) w1 #[.int .u64 ((dgl 1) 0 : Nat), .int .u64 ((dgl 1) 1 : Nat), .int .u64 ((dgl 1) 2 : Nat), .int .u64 ((dgl 1) 3 : Nat), .int .u64 ((dgl 1) 4 : Nat), .int .u64 ((dgl 1) 5 : Nat), .int .u64 ((dgl 1) 6 : Nat), .int .u64 ((dgl 1) 7 : Nat)] 1 hsz (by simp [maxLen]) rfl
  clear hb1 HL0 HB0 HOF
  go_wp2
  go_loopw [3] (fun v wr => ∃ m : Nat, m < n ∧ Hid (PowSt w a m v wr)) (fun v _ => n - lenV v)
  case atStart => exact ⟨0, hn1, HS1⟩
  case round =>
    clear HS1
    obtain ⟨m, hm, hst⟩ := hrel
    obtain ⟨g, cap, rfl, hca, hma, hg, hcell⟩ := hst.out.slice
    unfold maxLen at hma
    have hck : ∀ j, j < 8 → wr.cell? ⟨g, m * 8 + j, none⟩ = some (.int .u64 (dgl (10 ^ m) j : Nat)) := fun j hj => hcell m j (by omega) hj
    have hck0 := hck 0 (by decide)
    rw [Nat.add_zero] at hck0
    have hmq : 10 ^ m < QQ := by
      have h4 : 10 ^ 154 < QQ := by decide +kernel
      have h5 : 10 ^ m ≤ 10 ^ 154 := Nat.pow_le_pow_right (by decide) (by omega)
      omega
    have HP : Hid (10 ^ (m + 1) = 10 * 10 ^ m) := by unfold Hid; rw [Nat.pow_succ, Nat.mul_comm]
    have HS := hide (fun w => HSM.out (10 ^ m) hmq w)
    rw [← HP.out] at HS
    have HSL := hide hcell
    have hsl : g < wr.heap.size := hg
    clear hcell hmq HSM
    have hm' : (m : Int) < 155 := by omega
    have HPC : Hid (powC (m + 1 + 1) = powC (m + 1) ++ #[.int .u64 ((dgl (10 ^ (m + 1))) 0 : Nat), .int .u64 ((dgl (10 ^ (m + 1))) 1 : Nat), .int .u64 ((dgl (10 ^ (m + 1))) 2 : Nat), .int .u64 ((dgl (10 ^ (m + 1))) 3 : Nat), .int .u64 ((dgl (10 ^ (m + 1))) 4 : Nat), .int .u64 ((dgl (10 ^ (m + 1))) 5 : Nat), .int .u64 ((dgl (10 ^ (m + 1))) 6 : Nat), .int .u64 ((dgl (10 ^ (m + 1))) 7 : Nat)].toList) := rfl
    generalize hy : 10 ^ (m + 1) = y at *
    have HY := hide hy
    clear hy HP
    go_wp2_with fail
    refine (HS.out _).mono ?_
    rintro e w1 ⟨rfl, hb1⟩
    have HS1 := hide ((hst.out.below hb1).below (below_allocs w1 (.cells #[.int .u64 (dgl (y) 0 : Nat), .int .u64 (dgl (y) 1 : Nat), .int .u64 (dgl (y) 2 : Nat), .int .u64 (dgl (y) 3 : Nat), .int .u64 (dgl (y) 4 : Nat), .int .u64 (dgl (y) 5 : Nat), .int .u64 (dgl (y) 6 : Nat), .int .u64 (dgl (y) 7 : Nat)] 24)))
    have HNX := hide (liesF_new w1 (dgl y) 24)
    clear hb1 hck hck0 hst hsl
    go_upto_region 3 with fail
    refine wp_gen (fun W => PowSt w a m (.slice (some ⟨g, 0, none⟩) (m + 1) cap) W ∧ LiesF W w1.heap.size (dgl y)) ⟨HS1.out, HNX.out⟩ ?_
    rintro W3 ⟨h3, h3y⟩
    clear HS1 HNX
    generalize w1.heap.size = p at *
    have hca3 := h3.la.1
    have hcy := h3y.1
    have HS3 := hide h3
    have HY3 := hide h3y
    clear h3 h3y
    by_cases hlt : m + 1 < n
    · have hya : y ≤ a := by rw [← HY.out]; exact decN_step HN.out hlt
      have hyq : y < QQ := Nat.lt_of_le_of_lt hya HA.out
      rw [decide_eq_true hyq]
      have HC := hide (fun w => HCM.out y hyq w)
      have hcm := cmp_nle hya
      generalize cmpN y a = cm at *
      clear hyq HCM
      go_wp2_with fail
      refine (HC.out _).mono ?_
      rintro e w4 ⟨rfl, hb4⟩
      have HS4 := hide (HS3.out.below hb4)
      have HY4 := hide (HY3.out.below hb4)
      clear hb4 HS3 HY3 hca3 hcy
      have hcy := HY4.out.1
      go_wp2_with (at_builtin; refine wpList_append_own _ rfl _ _ 61 rfl (w.heap.size + 1) 24 i0 _ 8 64 wides_under hi hz0 hz1 hz2 rfl (by decide) _ _ _ rfl (HS4.out.own.alloc _) ⟨w4.heap.size, 0, none⟩ 1 1 #[.int .u64 ((dgl y) 0 : Nat), .int .u64 ((dgl y) 1 : Nat), .int .u64 ((dgl y) 2 : Nat), .int .u64 ((dgl y) 3 : Nat), .int .u64 ((dgl y) 4 : Nat), .int .u64 ((dgl y) 5 : Nat), .int .u64 ((dgl y) 6 : Nat), .int .u64 ((dgl y) 7 : Nat)].toList rfl rfl ?c1 ?c2 ?c3 ?c4 ?c5 ?_)
      case c2 => exact ⟨rfl, rfl, rfl, rfl, rfl, rfl, rfl, rfl⟩
      case c3 => unfold maxLen; omega
      case c4 => omega
      case c5 => have := HS4.out.bel.size; have := HS4.out.la.2; simp; omega
      intro v' w5 hown' hgrow _
      rw [← HPC.out] at hown'
      have HS5 : Hid (PowSt w a (m + 1) v' w5) := by
        have hb5 : Below (w.heap.size + 1) w4 w5 := ((Below.refl _ w4).alloc (by have := HS4.out.la.2; omega) _).grown hgrow (by have := HS4.out.la.2; simp; omega) (fun k hk => (HS4.out.own.lt k hk).1)
        exact ⟨lies_box HS4.out.la hb5 (by omega), hown', HS4.out.bel.trans (hb5.mono (by omega))⟩
      have HLV : Hid (lenV v' = m + 1 + 1) := by
        obtain ⟨g', cap', hv, _⟩ := HS5.out.slice
        rw [hv]; rfl
      clear hown' hgrow HS4 HY4 hcy
      go_wp2
      go_roundw
      case rel => exact ⟨m + 1, hlt, HS5⟩
      case measure =>
        rw [HLV.out]
        show n - (m + 1 + 1) < n - (m + 1)
        omega
    · have hmn : m + 1 = n := by omega
      have hay : a < y := by rw [← HY.out, hmn]; exact HN.out.2.1
      have HSL2 := hide HS3.out.slice
      have HFI : Hid (∃ g' cap', (Value.slice (some ⟨g, 0, none⟩) (m + 1) cap) = .slice (some ⟨g', 0, none⟩) n cap' ∧ n ≤ cap' ∧ cap' ≤ maxLen ∧ w.heap.size < g' ∧ g' < W3.heap.size ∧ (∀ i j, i < n → j < 8 → W3.cell? ⟨g', i * 8 + j, none⟩ = some (.int .u64 (dgl (10 ^ i) j : Nat))) ∧ Below w.heap.size w W3) := by
        obtain ⟨g', cap', hv, h1, h2, h3, h4⟩ := HS3.out.slice
        have h5 := (HS3.out.own.lt g rfl).1
        cases hv
        rw [hmn] at h1 h4 ⊢
        exact ⟨g, cap, rfl, h1, h2, by omega, h3, h4, HS3.out.bel⟩
      clear hmn hlt
      by_cases hyq : y < QQ
      · rw [decide_eq_true hyq]
        have HC := hide (fun w => HCM.out y hyq w)
        have hcm := cmp_gt hay
        generalize cmpN y a = cm at *
        clear hyq HCM
        go_wp2_with fail
        refine (HC.out _).mono ?_
        rintro e w4 ⟨rfl, hb4⟩
        have HB4 := hide hb4
        clear hb4 hca3 hcy
        go_wp2
        go_ret
        obtain ⟨g', cap', hv, h1, h2, h3, h4, h5, h6⟩ := HFI.out
        exact ⟨g', cap', congrArg Ending.returned hv, h1, h2, h3, Nat.lt_of_lt_of_le h4 HB4.out.size, fun i j hi hj => (HB4.out.cell (p := ⟨g', i * 8 + j, none⟩) h4).trans (h5 i j hi hj), below_trans h6 HB4.out⟩
      · rw [decide_eq_false hyq]
        clear hca3 hcy
        go_wp2
        go_ret
        obtain ⟨g', cap', hv, h1, h2, h3, h4, h5, h6⟩ := HFI.out
        exact ⟨g', cap', congrArg Ending.returned hv, h1, h2, h3, h4, h5, h6⟩

end Go.Proofs.Ytjklehlkgccmnaa

/- Contracts: digits.Decimal. -/
set_option linter.unusedVariables false
set_option linter.unusedSimpArgs false
set_option maxRecDepth 8000
namespace Go.Proofs.Ytjklehlkgccmnaa
open Go.RowKit Plain

/-- What Decimal's closure goes by: what is left, and ten's powers. -/
structure DecSt (R S g n cap x : Nat) (W : World) : Prop where
  lr : LiesF W R (dgl x)
  fr : ∀ i, W.frozen? ⟨R, i, none⟩ = false
  cs : W.cell? ⟨S, 0, none⟩ = some (.slice (some ⟨g, 0, none⟩) n cap)
  sl : S < W.heap.size
  gl : g < W.heap.size
  cg : ∀ i j, i < n → j < 8 → W.cell? ⟨g, i * 8 + j, none⟩ = some (.int .u64 (dgl (10 ^ i) j : Nat))
  nS : S ≠ R
theorem DecSt.under {R S g n cap x : Nat} {W W' : World} (h : DecSt R S g n cap x W) {B : Nat} (hb : Below B W W') (h1 : R < B) (h2 : S < B) (h3 : g < B) : DecSt R S g n cap x W' :=
  ⟨lies_box h.lr hb h1, fun i => (hb.frozen (p := ⟨R, i, none⟩) h1).trans (h.fr i), (hb.cell (p := ⟨S, 0, none⟩) h2).trans h.cs, Nat.lt_of_lt_of_le h.sl hb.size, Nat.lt_of_lt_of_le h.gl hb.size,
    fun i j hi hj => (hb.cell (p := ⟨g, i * 8 + j, none⟩) h3).trans (h.cg i j hi hj), h.nS⟩
theorem DecSt.below {R S g n cap x : Nat} {W W' : World} (h : DecSt R S g n cap x W) (hb : Below W.heap.size W W') : DecSt R S g n cap x W' := h.under hb h.lr.2 h.sl h.gl
theorem DecSt.set {R S g n cap x : Nat} {W : World} (h : DecSt R S g n cap x W) (ng : g ≠ R) (r : Nat) : DecSt R S g n cap r ((((((((W.setCell ⟨R, 0, none⟩ (.int .u64 (dgl r 0 : Nat))).setCell ⟨R, 1, none⟩ (.int .u64 (dgl r 1 : Nat))).setCell ⟨R, 2, none⟩ (.int .u64 (dgl r 2 : Nat))).setCell ⟨R, 3, none⟩ (.int .u64 (dgl r 3 : Nat))).setCell ⟨R, 4, none⟩ (.int .u64 (dgl r 4 : Nat))).setCell ⟨R, 5, none⟩ (.int .u64 (dgl r 5 : Nat))).setCell ⟨R, 6, none⟩ (.int .u64 (dgl r 6 : Nat))).setCell ⟨R, 7, none⟩ (.int .u64 (dgl r 7 : Nat))) := by
  have hk : ∀ (X : World) (i : Nat) (u : Value) (b j : Nat), b ≠ R → (X.setCell ⟨R, i, none⟩ u).cell? ⟨b, j, none⟩ = X.cell? ⟨b, j, none⟩ := fun X i u b j hb => by
    simp [go_sem, hb]
  refine ⟨set8_same W R (dgl r) (dgl x) h.lr, fun i => by simpa [go_sem] using h.fr i, ?_, by simpa [go_sem] using h.sl, by simpa [go_sem] using h.gl, fun i j hi hj => ?_, h.nS⟩
  · rw [hk _ _ _ _ _ h.nS, hk _ _ _ _ _ h.nS, hk _ _ _ _ _ h.nS, hk _ _ _ _ _ h.nS, hk _ _ _ _ _ h.nS, hk _ _ _ _ _ h.nS, hk _ _ _ _ _ h.nS, hk _ _ _ _ _ h.nS]
    exact h.cs
  · rw [hk _ _ _ _ _ ng, hk _ _ _ _ _ ng, hk _ _ _ _ _ ng, hk _ _ _ _ _ ng, hk _ _ _ _ _ ng, hk _ _ _ _ _ ng, hk _ _ _ _ _ ng, hk _ _ _ _ _ ng]
    exact h.cg i j hi hj

/-- .. while the closure runs: what is left has been stored, or not yet. -/
def DecAt (R S g n cap x r : Nat) : Bool → World → Prop
  | true, W => g ≠ R → DecSt R S g n cap r W
  | false, W => DecSt R S g n cap x W
theorem DecAt.below {R S g n cap x r : Nat} {b : Bool} {W W' : World} (h : DecAt R S g n cap x r b W) (hb : Below W.heap.size W W') : DecAt R S g n cap x r b W' := by
  cases b
  · exact DecSt.below h hb
  · exact fun ng => DecSt.below (h ng) hb
theorem grownBy_set (X : World) (R i : Nat) (u : Value) : X.grownBy (X.setCell ⟨R, i, none⟩ u) (some R) :=
  have hb := (Below.refl 0 X).setCell (p := ⟨R, i, none⟩) (Nat.zero_le _) u
  ⟨hb.os, hb.tape, hb.output, hb.size, fun k _ hk => Below.heap_setCell X _ u k (fun h => hk (by rw [h]))⟩
theorem grown_set8 (W : World) (r : Nat) (x0 x1 x2 x3 x4 x5 x6 x7 : Value) : W.grownBy ((((((((W.setCell ⟨r, 0, none⟩ x0).setCell ⟨r, 1, none⟩ x1).setCell ⟨r, 2, none⟩ x2).setCell ⟨r, 3, none⟩ x3).setCell ⟨r, 4, none⟩ x4).setCell ⟨r, 5, none⟩ x5).setCell ⟨r, 6, none⟩ x6).setCell ⟨r, 7, none⟩ x7) (some r) :=
  grownBy_trans (grownBy_trans (grownBy_trans (grownBy_trans (grownBy_trans (grownBy_trans (grownBy_trans (grownBy_set _ _ _ _) (grownBy_set _ _ _ _)) (grownBy_set _ _ _ _)) (grownBy_set _ _ _ _)) (grownBy_set _ _ _ _)) (grownBy_set _ _ _ _)) (grownBy_set _ _ _ _)) (grownBy_set _ _ _ _)

set_option maxHeartbeats 1000000 in
theorem decimal1_any (R S g n cap x p : Nat) (hx : x < QQ) (hp : p < n) (hn : n ≤ 155) (hcap : n ≤ cap) (hq : x / 10 ^ p < 16) (w : World) (hst : DecSt R S g n cap x w) :
    Calls Try.prog 34 #[.int .i64 (p : Nat), .pointer (some ⟨R, 0, none⟩), .pointer (some ⟨S, 0, none⟩)] w fun e w' => e = .returned (.int .i64 ((x / 10 ^ p : Nat) : Int)) ∧ (g ≠ R → DecSt R S g n cap (x % 10 ^ p) w') ∧ w.grownBy w' (some R) := by
  have hyq : 10 ^ p < QQ := by
    have h4 : 10 ^ 154 < QQ := by decide +kernel
    have h5 : 10 ^ p ≤ 10 ^ 154 := Nat.pow_le_pow_right (by decide) (by omega)
    omega
  have hy0 : 0 < 10 ^ p := Nat.pow_pos (by decide)
  have HTK := hide (fun w => taken_any x (10 ^ p) hx hyq hy0 (by omega) w)
  have HPN := hide (show (p : Int) < (n : Int) by omega)
  have HPN := hide hp
  have HCA := hide hcap
  obtain ⟨y, hy⟩ : ∃ y, 10 ^ p = y := ⟨_, rfl⟩
  have HY := hide hy
  rw [hy] at HTK ⊢
  clear hyq hy0 hy hp hcap hx
  generalize x / y = q at *
  generalize x % y = r at *
  have h1 := hst
  go_enter Try.func34, Try.ntmps34
  go_upto_region 2 with fail
  refine wp_region_storeK 11 [10] [7, 8, 9, 10, 11, 12, 6, 13, 14, 5] (fun bs => [(7, .val (.agg #[.int .u64 (dgl (x) 0 : Nat), .int .u64 (dgl (x) 1 : Nat), .int .u64 (dgl (x) 2 : Nat), .int .u64 (dgl (x) 3 : Nat), .int .u64 (dgl (x) 4 : Nat), .int .u64 (dgl (x) 5 : Nat), .int .u64 (dgl (x) 6 : Nat), .int .u64 (dgl (x) 7 : Nat)])), (8, .val (.slice (some ⟨g, 0, none⟩) n cap)), (9, .val (.int .i64 (p : Nat))), (10, .val (.pointer (some ⟨g, p * 8, none⟩))), (11, .val (.agg #[.int .u64 (dgl (y) 0 : Nat), .int .u64 (dgl (y) 1 : Nat), .int .u64 (dgl (y) 2 : Nat), .int .u64 (dgl (y) 3 : Nat), .int .u64 (dgl (y) 4 : Nat), .int .u64 (dgl (y) 5 : Nat), .int .u64 (dgl (y) 6 : Nat), .int .u64 (dgl (y) 7 : Nat)])), (12, .val (.tuple #[.int .i64 (q : Nat), .agg #[.int .u64 (dgl (r) 0 : Nat), .int .u64 (dgl (r) 1 : Nat), .int .u64 (dgl (r) 2 : Nat), .int .u64 (dgl (r) 3 : Nat), .int .u64 (dgl (r) 4 : Nat), .int .u64 (dgl (r) 5 : Nat), .int .u64 (dgl (r) 6 : Nat), .int .u64 (dgl (r) 7 : Nat)]])), (6, .val (.tuple #[.int .i64 (q : Nat), .agg #[.int .u64 (dgl (r) 0 : Nat), .int .u64 (dgl (r) 1 : Nat), .int .u64 (dgl (r) 2 : Nat), .int .u64 (dgl (r) 3 : Nat), .int .u64 (dgl (r) 4 : Nat), .int .u64 (dgl (r) 5 : Nat), .int .u64 (dgl (r) 6 : Nat), .int .u64 (dgl (r) 7 : Nat)]])), (13, .val (.int .i64 (q : Nat))), (14, .val (.agg #[.int .u64 (dgl (r) 0 : Nat), .int .u64 (dgl (r) 1 : Nat), .int .u64 (dgl (r) 2 : Nat), .int .u64 (dgl (r) 3 : Nat), .int .u64 (dgl (r) 4 : Nat), .int .u64 (dgl (r) 5 : Nat), .int .u64 (dgl (r) 6 : Nat), .int .u64 (dgl (r) 7 : Nat)])), (5, .val (.int .i64 (q : Nat)))])
    (fun bs W => (∀ b, bs.headD false = b → DecAt R S g n cap x r b W) ∧ w.grownBy W (some R)) (fun bs => rfl) mixedOk (by kernel_rfl) (by kernel_rfl) (by kernel_rfl) (⟨fun b hb => by subst hb; exact h1.below (Below.refl _ _).drew, grownBy_of_below (Below.refl _ _).drew _⟩) (fun bs W W' h hb => ⟨fun b hq => (h.1 b hq).below hb, grownBy_trans h.2 (grownBy_of_below hb _)⟩) ?_ ?_
  · refine kSt rfl (fun φ hφ => gStep_run rfl ?_) ?_
    · intro ρ W hC hc hf hL
      have e1 : ρ (.tmp 1) = .pointer (some ⟨R, 0, none⟩) := hL 1 (by decide +kernel)
      have hφ0 : φ 10 = false := hφ 10 (by simp) (by kernel_rfl)
      have hD : DecSt R S g n cap x W := hC.1 false hφ0
      have hl := hD.lr.1
      simp [go_sem, hc, hf, e1, hl]
      exact ⟨Below.refl _ _, rfl⟩
    refine kSt rfl (fun φ hφ => gStep_run rfl ?_) ?_
    · intro ρ W hC hc hf hL
      have e2 : ρ (.tmp 2) = .pointer (some ⟨S, 0, none⟩) := hL 2 (by decide +kernel)
      have hφ0 : φ 10 = false := hφ 10 (by simp) (by kernel_rfl)
      have hD : DecSt R S g n cap x W := hC.1 false hφ0
      have hl := hD.cs
      simp [go_sem, hc, hf, e2, hl]
      exact ⟨Below.refl _ _, rfl⟩
    refine kSt rfl (fun φ hφ => gStep_run rfl (gRun_move 0 9 (.inl rfl) rfl (by decide +kernel) (fun v w h => h))) ?_
    refine kSt rfl (fun φ hφ => gStep_run rfl ?_) ?_
    · intro ρ W hC hc hf hL
      have e8 : ρ (.tmp 8) = .slice (some ⟨g, 0, none⟩) n cap := hL 8 (by decide +kernel)
      have e9 : ρ (.tmp 9) = .int .i64 (p : Nat) := hL 9 (by decide +kernel)
      have hpn := HPN.out
      have hcap := HCA.out
      simp [go_sem, hc, hf, e8, e9, hpn, hcap]
      exact ⟨Below.refl _ _, rfl⟩
    refine kSt rfl (fun φ hφ => gStep_run rfl ?_) ?_
    · intro ρ W hC hc hf hL
      have e10 : ρ (.tmp 10) = .pointer (some ⟨g, p * 8, none⟩) := hL 10 (by decide +kernel)
      have hφ0 : φ 10 = false := hφ 10 (by simp) (by kernel_rfl)
      have hD : DecSt R S g n cap x W := hC.1 false hφ0
      have hck : ∀ j, j < 8 → W.cell? ⟨g, p * 8 + j, none⟩ = some (.int .u64 (dgl y j : Nat)) := fun j hj => by rw [← HY.out]; exact hD.cg p j HPN.out hj
      have hck0 := hck 0 (by decide)
      rw [Nat.add_zero] at hck0
      simp [go_sem, hc, hf, e10, hck, hck0]
      exact ⟨Below.refl _ _, rfl⟩
    refine kSt rfl (fun φ hφ => gStep_run rfl ?_) ?_
    · intro ρ W hC hc hf hL
      have e7 : ρ (.tmp 7) = .agg #[.int .u64 (dgl (x) 0 : Nat), .int .u64 (dgl (x) 1 : Nat), .int .u64 (dgl (x) 2 : Nat), .int .u64 (dgl (x) 3 : Nat), .int .u64 (dgl (x) 4 : Nat), .int .u64 (dgl (x) 5 : Nat), .int .u64 (dgl (x) 6 : Nat), .int .u64 (dgl (x) 7 : Nat)] := hL 7 (by decide +kernel)
      have e11 : ρ (.tmp 11) = .agg #[.int .u64 (dgl (y) 0 : Nat), .int .u64 (dgl (y) 1 : Nat), .int .u64 (dgl (y) 2 : Nat), .int .u64 (dgl (y) 3 : Nat), .int .u64 (dgl (y) 4 : Nat), .int .u64 (dgl (y) 5 : Nat), .int .u64 (dgl (y) 6 : Nat), .int .u64 (dgl (y) 7 : Nat)] := hL 11 (by decide +kernel)
      simp [go_sem, hc, hf, e7, e11]
      refine (HTK.out W).mono ?_
      rintro e w' ⟨rfl, hb⟩
      exact ⟨_, rfl, by first | exact hb | (subst hb; exact Below.refl _ _), rfl⟩
    refine kSt rfl (fun φ hφ => gStep_run rfl (gRun_move 12 6 (.inl rfl) rfl (by decide +kernel) (fun v w h => h))) ?_
    refine kSt rfl (fun φ hφ => gStep_run rfl ?_) ?_
    · intro ρ W hC hc hf hL
      have e6 : ρ (.tmp 6) = .tuple #[.int .i64 (q : Nat), .agg #[.int .u64 (dgl (r) 0 : Nat), .int .u64 (dgl (r) 1 : Nat), .int .u64 (dgl (r) 2 : Nat), .int .u64 (dgl (r) 3 : Nat), .int .u64 (dgl (r) 4 : Nat), .int .u64 (dgl (r) 5 : Nat), .int .u64 (dgl (r) 6 : Nat), .int .u64 (dgl (r) 7 : Nat)]] := hL 6 (by decide +kernel)
      simp [go_sem, hc, hf, e6]
      exact ⟨Below.refl _ _, rfl⟩
    refine kSt rfl (fun φ hφ => gStep_run rfl ?_) ?_
    · intro ρ W hC hc hf hL
      have e6 : ρ (.tmp 6) = .tuple #[.int .i64 (q : Nat), .agg #[.int .u64 (dgl (r) 0 : Nat), .int .u64 (dgl (r) 1 : Nat), .int .u64 (dgl (r) 2 : Nat), .int .u64 (dgl (r) 3 : Nat), .int .u64 (dgl (r) 4 : Nat), .int .u64 (dgl (r) 5 : Nat), .int .u64 (dgl (r) 6 : Nat), .int .u64 (dgl (r) 7 : Nat)]] := hL 6 (by decide +kernel)
      simp [go_sem, hc, hf, e6]
      exact ⟨Below.refl _ _, rfl⟩
    refine kSt rfl (fun φ hφ => gStep_run rfl (gRun_move 13 5 (.inr rfl) rfl (by decide +kernel) (fun v w h => h))) ?_
    refine kStS rfl ⟨rfl, rfl, ?_⟩ ?_
    · intro φ ρ W hφ hC hc hL
      have e1 : ρ (.tmp 1) = .pointer (some ⟨R, 0, none⟩) := hL 1 (by decide +kernel)
      have e14 : ρ (.tmp 14) = .agg #[.int .u64 (dgl (r) 0 : Nat), .int .u64 (dgl (r) 1 : Nat), .int .u64 (dgl (r) 2 : Nat), .int .u64 (dgl (r) 3 : Nat), .int .u64 (dgl (r) 4 : Nat), .int .u64 (dgl (r) 5 : Nat), .int .u64 (dgl (r) 6 : Nat), .int .u64 (dgl (r) 7 : Nat)] := hL 14 (by decide +kernel)
      have hD : DecSt R S g n cap x W := hC.1 false hφ
      have hr := hD.lr.1
      have hrl := hD.lr.2
      have hrf := hD.fr
      refine gUpon_of ((((((((W.setCell ⟨R, 0, none⟩ (.int .u64 (dgl r 0 : Nat))).setCell ⟨R, 1, none⟩ (.int .u64 (dgl r 1 : Nat))).setCell ⟨R, 2, none⟩ (.int .u64 (dgl r 2 : Nat))).setCell ⟨R, 3, none⟩ (.int .u64 (dgl r 3 : Nat))).setCell ⟨R, 4, none⟩ (.int .u64 (dgl r 4 : Nat))).setCell ⟨R, 5, none⟩ (.int .u64 (dgl r 5 : Nat))).setCell ⟨R, 6, none⟩ (.int .u64 (dgl r 6 : Nat))).setCell ⟨R, 7, none⟩ (.int .u64 (dgl r 7 : Nat))) ?_ (fun _ => ?_)
      · simp [go_sem, hc, e1, e14, hr, hrl, hrf, gUpon]
      refine ⟨⟨fun b hb => ?_, grownBy_trans hC.2 (grown_set8 W R _ _ _ _ _ _ _ _)⟩, fun t => (tbl_imp rfl (fun _ => val_imp) (tbl_imp rfl (fun _ => val_imp) (tbl_imp rfl (fun _ => val_imp) (tbl_imp rfl (fun _ => val_imp) (tbl_imp rfl (fun _ => val_imp) (tbl_imp rfl (fun _ => val_imp) (tbl_imp rfl (fun _ => val_imp) (tbl_imp rfl (fun _ => val_imp) (tbl_imp rfl (fun _ => val_imp) (tbl_imp rfl (fun _ => val_imp) tbl_nil_imp))))))))))⟩
      have hb2 : (φ 10 || true) = b := hb
      rw [Bool.or_true] at hb2
      subst hb2
      exact fun ng => hD.set ng r
    exact kSt0
  · intro W hC
    refine gFi 7 rfl ?_
    rintro _ rfl
    refine gFi 8 rfl ?_
    rintro _ rfl
    refine gFi 9 rfl ?_
    rintro _ rfl
    refine gFi 10 rfl ?_
    rintro _ rfl
    refine gFi 11 rfl ?_
    rintro _ rfl
    refine gFi 12 rfl ?_
    rintro _ rfl
    refine gFi 6 rfl ?_
    rintro _ rfl
    refine gFi 13 rfl ?_
    rintro _ rfl
    refine gFi 14 rfl ?_
    rintro _ rfl
    refine gFi 5 rfl ?_
    rintro _ rfl
    refine gFiN rfl ?_
    refine gFi0 ?_
    simp only [List.drop_succ_cons, List.drop_zero, Act.put, List.setIfInBounds_toArray, List.set_cons_succ, List.set_cons_zero]
    have HG := hide hC.2
    have HS : Hid (g ≠ R → DecSt R S g n cap r W) := hC.1 true rfl
    clear hC h1
    go_wp2
    go_ret
    exact ⟨rfl, HS.out, HG.out⟩


end Go.Proofs.Ytjklehlkgccmnaa

/- Contracts: digits.Decimal. -/
set_option linter.unusedVariables false
set_option linter.unusedSimpArgs false
set_option maxRecDepth 8000
namespace Go.Proofs.Ytjklehlkgccmnaa
open Go.RowKit Plain

/-- Ten's powers lie at g. -/
structure PowsAt (B n g cap : Nat) (W : World) : Prop where
  ca : n ≤ cap ∧ cap ≤ maxLen
  bg : B ≤ g
  gl : g < W.heap.size
  cg : ∀ i j, i < n → j < 8 → W.cell? ⟨g, i * 8 + j, none⟩ = some (.int .u64 (dgl (10 ^ i) j : Nat))
theorem PowsAt.below {B n g cap : Nat} {W W' : World} (h : PowsAt B n g cap W) (hb : Below W.heap.size W W') : PowsAt B n g cap W' :=
  ⟨h.ca, h.bg, Nat.lt_of_lt_of_le h.gl hb.size, fun i j hi hj => (hb.cell (p := ⟨g, i * 8 + j, none⟩) h.gl).trans (h.cg i j hi hj)⟩
theorem PowsAt.ne {B n g cap : Nat} {W : World} (h : PowsAt B n g cap W) (hn : 0 < n) {p : Nat} {v : Value} (hc : W.cell? ⟨p, 0, none⟩ = some v) (hv : v ≠ .int .u64 1) : g ≠ p := fun he => by
  have h0 := h.cg 0 0 hn (by decide)
  rw [he, Nat.zero_mul, hc] at h0
  exact hv (by injection h0)
theorem PowsAt.only {B n g cap : Nat} {W W' : World} (h : PowsAt B n g cap W) (hn : 0 < n) {p : Nat} {v : Value} (hc : W.cell? ⟨p, 0, none⟩ = some v) (hv : v ≠ .int .u64 1) (ho : OnlyAt p W W') : PowsAt B n g cap W' :=
  ⟨h.ca, h.bg, Nat.lt_of_lt_of_le h.gl ho.1, fun i j hi hj => (ho.2 g _ (h.ne hn hc hv)).trans (h.cg i j hi hj)⟩
theorem onlyAt_set (W : World) (r i : Nat) (u : Value) : OnlyAt r W (W.setCell ⟨r, i, none⟩ u) :=
  ⟨by simp [go_sem], fun b j hb => by simp [go_sem, hb]⟩
theorem PowsAt.set {B n g cap : Nat} {W : World} (h : PowsAt B n g cap W) (hn : 0 < n) {p : Nat} {v : Value} (hc : W.cell? ⟨p, 0, none⟩ = some v) (hv : v ≠ .int .u64 1) (i : Nat) (u : Value) : PowsAt B n g cap (W.setCell ⟨p, i, none⟩ u) :=
  h.only hn hc hv (onlyAt_set W p i u)
def SlotIs.pows (B n : Nat) : SlotIs :=
  ⟨fun v w => ∃ g cap, v = .slice (some ⟨g, 0, none⟩) n cap ∧ PowsAt B n g cap w, fun v w w' hb ⟨g, cap, h1, h2⟩ => ⟨g, cap, h1, h2.below hb⟩⟩
/-- A new block of the call's own for a slice. -/
def SlotIs.sbox0 (B : Nat) : SlotIs :=
  ⟨fun v w => ∃ b, v = .pointer (some ⟨b, 0, none⟩) ∧ B ≤ b ∧ b < w.heap.size ∧ w.cell? ⟨b, 0, none⟩ = some (.slice none 0 0) ∧ w.frozen? ⟨b, 0, none⟩ = false,
   fun v w w' hb ⟨b, h1, h2, h3, h4, h5⟩ => ⟨b, h1, h2, Nat.lt_of_lt_of_le h3 hb.size, (hb.cell (p := ⟨b, 0, none⟩) h3).trans h4, (hb.frozen (p := ⟨b, 0, none⟩) h3).trans h5⟩⟩
def SlotIs.sboxP (B n : Nat) : SlotIs :=
  ⟨fun v w => ∃ b, v = .pointer (some ⟨b, 0, none⟩) ∧ B ≤ b ∧ b < w.heap.size ∧ ∃ g cap, w.cell? ⟨b, 0, none⟩ = some (.slice (some ⟨g, 0, none⟩) n cap) ∧ PowsAt B n g cap w,
   fun v w w' hb ⟨b, h1, h2, h3, g, cap, h4, h5⟩ => ⟨b, h1, h2, Nat.lt_of_lt_of_le h3 hb.size, g, cap, (hb.cell (p := ⟨b, 0, none⟩) h3).trans h4, h5.below hb⟩⟩
/-- A new block of the call's own that holds eight limbs, and no more. -/
def SlotIs.boxM (B : Nat) (f : Nat → Nat) : SlotIs :=
  ⟨fun v w => ∃ b, v = .pointer (some ⟨b, 0, none⟩) ∧ B ≤ b ∧ LiesF w b f ∧ (∀ i, w.frozen? ⟨b, i, none⟩ = false) ∧ w.cell? ⟨b, 8, none⟩ = none,
   fun v w w' hb ⟨b, h1, h2, h3, h4, h5⟩ => ⟨b, h1, h2, h3.below hb, fun i => (hb.frozen (p := ⟨b, i, none⟩) h3.2).trans (h4 i), (hb.cell (p := ⟨b, 8, none⟩) h3.2).trans h5⟩⟩
theorem boxM_set {B : Nat} {f : Nat → Nat} {v : Value} {W : World} {p : Nat} (h : (SlotIs.boxM B f).R v W) (hc : W.cell? ⟨p, 0, none⟩ = some (.slice none 0 0)) (u : Value) : (SlotIs.boxM B f).R v (W.setCell ⟨p, 0, none⟩ u) := by
  obtain ⟨b, h1, h2, h3, h4, h5⟩ := h
  have hne : b ≠ p := fun he => by
    have := h3.1 0 (by decide)
    rw [he, hc] at this
    simp at this
  exact ⟨b, h1, h2, ⟨fun i hi => by simpa [go_sem, hne] using h3.1 i hi, by simpa [go_sem] using h3.2⟩, fun i => by simpa [go_sem] using h4 i, by simpa [go_sem, hne] using h5⟩
theorem powers_fix (a n B : Nat) (ha : a < QQ) (hn : DecN a n) (w : World) (hB : B ≤ w.heap.size) :
    Calls Try.prog 32 #[.agg #[.int .u64 (dgl (a) 0 : Nat), .int .u64 (dgl (a) 1 : Nat), .int .u64 (dgl (a) 2 : Nat), .int .u64 (dgl (a) 3 : Nat), .int .u64 (dgl (a) 4 : Nat), .int .u64 (dgl (a) 5 : Nat), .int .u64 (dgl (a) 6 : Nat), .int .u64 (dgl (a) 7 : Nat)]] w fun e w' => ∃ v, e = .returned v ∧ (SlotIs.pows B n).R v w' ∧ Below w.heap.size w w' := by
  refine (powers_any a n ha hn w).mono ?_
  rintro e w' ⟨g, cap, rfl, h1, h2, h3, h4, h5, h6⟩
  exact ⟨_, rfl, ⟨g, cap, rfl, ⟨h1, h2⟩, by omega, h4, h5⟩, h6⟩

/-- What is left of a number behind k of its n digits, and the digit that follows. -/
theorem dec_step (a n k p : Nat) (h : k + 1 + p = n) : a % 10 ^ (n - k) / 10 ^ p = digN 10 a n k ∧ a % 10 ^ (n - k) % 10 ^ p = a % 10 ^ (n - (k + 1)) := by
  have h1 : n - k = p + 1 := by omega
  have h2 : n - (k + 1) = p := by omega
  have h3 : n - 1 - k = p := by omega
  unfold digN
  rw [h1, h2, h3]
  constructor
  · rw [Nat.pow_succ, Nat.mod_mul_right_div_self]
  · exact Nat.mod_mod_of_dvd a (Nat.pow_dvd_pow 10 (by omega))

set_option maxHeartbeats 4000000 in
theorem decimal_any (a n : Nat) (ha : a < QQ) (hn : DecN a n) (w : World) :
    Calls Try.prog 13 #[.agg #[.int .u64 (dgl (a) 0 : Nat), .int .u64 (dgl (a) 1 : Nat), .int .u64 (dgl (a) 2 : Nat), .int .u64 (dgl (a) 3 : Nat), .int .u64 (dgl (a) 4 : Nat), .int .u64 (dgl (a) 5 : Nat), .int .u64 (dgl (a) 6 : Nat), .int .u64 (dgl (a) 7 : Nat)]] w fun e w' => e = .returned (.string (textN 10 a n)) ∧ Below w.heap.size w w' := by
  have hnb := decN_le hn ha
  have HN1 := hide hn.1
  have HPW := hide (fun w' (hw : w.heap.size < w'.heap.size) => powers_fix a n (w.heap.size + 1) ha hn w' hw)
  have HW : Hid (∀ (R S g cap : Nat) (W : World), w.heap.size < R → (n ≤ cap ∧ cap ≤ maxLen) → (1 < n → g ≠ R) → DecSt R S g n cap a W → Below w.heap.size w W →
      Calls Try.prog 33 #[.int .i64 (n : Nat), .func (.func 34) #[] #[.pointer (some ⟨R, 0, none⟩), .pointer (some ⟨S, 0, none⟩)]] W fun e w' => e = .returned (.string (textN 10 a n)) ∧ Below w.heap.size w w') := by
    intro R S g cap W hR hca hng hD hbW
    refine (written_any 34 #[.pointer (some ⟨R, 0, none⟩), .pointer (some ⟨S, 0, none⟩)] n (digN 10 a n) (fun k wr => k < n → DecSt R S g n cap (a % 10 ^ (n - k)) wr) (some R) W (by omega) (fun k hk => Nat.lt_trans (digN_lt (by decide) a n k) (by decide)) (enters_of Try.func34 (by kernel_rfl) rfl) (fun c hc => by injection hc with hc; rw [← hc]; exact hD.lr.2) ?_ ?_ ?_).mono ?_
    · intro k p wr hk hp hI hsz
      obtain ⟨d1, d2⟩ := dec_step a n k p hp
      have hdl := digN_lt (show 0 < 10 by decide) a n k
      refine (decimal1_any R S g n cap (a % 10 ^ (n - k)) p (Nat.lt_of_le_of_lt (Nat.mod_le _ _) ha) (by omega) hnb hca.1 (by rw [d1]; omega) wr (hI hk)).mono ?_
      rintro e w' ⟨rfl, h1, h2⟩
      rw [d2] at h1
      rw [d1]
      exact ⟨rfl, fun hk2 => h1 (hng (by omega)), h2⟩
    · intro i wr wr' hI hb hi
      exact (hI hi).under hb hD.lr.2 hD.sl hD.gl
    · intro h0
      rw [Nat.sub_zero, Nat.mod_eq_of_lt hn.2.1]
      exact hD
    · rintro e w' ⟨rfl, _, hg⟩
      exact ⟨rfl, hbW.trans (below_of_grownBy hg hbW.size (fun k hk => by injection hk with hk; omega))⟩
  clear hn ha hnb
  have h1 : LiesF (w.alloc (.cells #[.int .u64 ((dgl a) 0 : Nat), .int .u64 ((dgl a) 1 : Nat), .int .u64 ((dgl a) 2 : Nat), .int .u64 ((dgl a) 3 : Nat), .int .u64 ((dgl a) 4 : Nat), .int .u64 ((dgl a) 5 : Nat), .int .u64 ((dgl a) 6 : Nat), .int .u64 ((dgl a) 7 : Nat)] 24)) w.heap.size (dgl a) ∧ Below w.heap.size w (w.alloc (.cells #[.int .u64 ((dgl a) 0 : Nat), .int .u64 ((dgl a) 1 : Nat), .int .u64 ((dgl a) 2 : Nat), .int .u64 ((dgl a) 3 : Nat), .int .u64 ((dgl a) 4 : Nat), .int .u64 ((dgl a) 5 : Nat), .int .u64 ((dgl a) 6 : Nat), .int .u64 ((dgl a) 7 : Nat)] 24)) := ⟨liesF_new w (dgl a) 24, below_allocs w _⟩
  go_enter Try.func13, Try.ntmps13
  go_upto_region 1 with fail
  refine wp_region_storeK 7 [5, 6] [5, 6, 7, 3, 4] (fun bs => [(5, .val (.agg #[.int .u64 (dgl (a) 0 : Nat), .int .u64 (dgl (a) 1 : Nat), .int .u64 (dgl (a) 2 : Nat), .int .u64 (dgl (a) 3 : Nat), .int .u64 (dgl (a) 4 : Nat), .int .u64 (dgl (a) 5 : Nat), .int .u64 (dgl (a) 6 : Nat), .int .u64 (dgl (a) 7 : Nat)])), (6, .pows (w.heap.size + 1) n), (7, .val (.agg #[.int .u64 (dgl (a) 0 : Nat), .int .u64 (dgl (a) 1 : Nat), .int .u64 (dgl (a) 2 : Nat), .int .u64 (dgl (a) 3 : Nat), .int .u64 (dgl (a) 4 : Nat), .int .u64 (dgl (a) 5 : Nat), .int .u64 (dgl (a) 6 : Nat), .int .u64 (dgl (a) 7 : Nat)])), (3, bif bs.headD false then SlotIs.sboxP (w.heap.size + 1) n else SlotIs.sbox0 (w.heap.size + 1)), (4, bif bs.tail.headD false then SlotIs.boxM (w.heap.size + 1) (dgl a) else SlotIs.boxM (w.heap.size + 1) (fun _ => 0))])
    (fun _ W => LiesF W w.heap.size (dgl a) ∧ Below w.heap.size w W) (fun bs => rfl) mixedOk (by kernel_rfl) (by kernel_rfl) (by kernel_rfl) (⟨h1.1.below (Below.refl _ _).drew, h1.2.drew⟩) (fun bs W W' h hb => ⟨h.1.below hb, below_trans h.2 hb⟩) ?_ ?_
  · refine kSt rfl (fun φ hφ => gStep_run rfl ?_) ?_
    · intro ρ W hC hc hf hL
      have e1 : ρ (.tmp 1) = .pointer (some ⟨w.heap.size, 0, none⟩) := hL 1 (by decide +kernel)
      have hl := hC.1.1
      simp [go_sem, hc, hf, e1, hl]
      exact ⟨Below.refl _ _, rfl⟩
    refine kSt rfl (fun φ hφ => gStep_run rfl ?_) ?_
    · intro ρ W hC hc hf hL
      have e5 : ρ (.tmp 5) = .agg #[.int .u64 (dgl (a) 0 : Nat), .int .u64 (dgl (a) 1 : Nat), .int .u64 (dgl (a) 2 : Nat), .int .u64 (dgl (a) 3 : Nat), .int .u64 (dgl (a) 4 : Nat), .int .u64 (dgl (a) 5 : Nat), .int .u64 (dgl (a) 6 : Nat), .int .u64 (dgl (a) 7 : Nat)] := hL 5 (by decide +kernel)
      simp [go_sem, hc, hf, e5]
      refine (HPW.out W hC.1.2).mono ?_
      rintro e w' ⟨v, rfl, hv, hb⟩
      exact ⟨_, rfl, hb, hv⟩
    refine kSt rfl (fun φ hφ => gStep_run rfl ?_) ?_
    · intro ρ W hC hc hf hL
      have e1 : ρ (.tmp 1) = .pointer (some ⟨w.heap.size, 0, none⟩) := hL 1 (by decide +kernel)
      have hl := hC.1.1
      simp [go_sem, hc, hf, e1, hl]
      exact ⟨Below.refl _ _, rfl⟩
    refine kSt rfl (fun φ hφ => gStep_run rfl ?_) ?_
    · intro ρ W hC hc hf hL
      have hφ0 : φ 5 = false := hφ 5 (by simp) (by kernel_rfl)
      simp [go_sem, hc, hf]
      refine ⟨below_allocs _ _, ?_⟩
      show (bif φ 5 then SlotIs.sboxP (w.heap.size + 1) n else SlotIs.sbox0 (w.heap.size + 1)).R _ _
      rw [hφ0]
      exact ⟨_, rfl, hC.1.2, by simp, by simp [go_sem], by simp [go_sem]⟩
    refine kSt rfl (fun φ hφ => gStep_run rfl ?_) ?_
    · intro ρ W hC hc hf hL
      have hφ0 : φ 6 = false := hφ 6 (by simp) (by kernel_rfl)
      simp [go_sem, hc, hf]
      refine ⟨below_allocs _ _, ?_⟩
      show (bif φ 6 then SlotIs.boxM (w.heap.size + 1) (dgl a) else SlotIs.boxM (w.heap.size + 1) (fun _ => 0)).R _ _
      rw [hφ0]
      exact ⟨_, rfl, hC.1.2, liesF_new _ (fun _ => 0) _, fun i => by simp [go_sem], by simp [go_sem]⟩
    refine kStS rfl ⟨rfl, rfl, ?_⟩ ?_
    · intro φ ρ W hφ hC hc hL
      have b3 := hL 3 (by decide +kernel)
      have b6 := hL 6 (by decide +kernel)
      have b3 : (bif φ 5 then SlotIs.sboxP (w.heap.size + 1) n else SlotIs.sbox0 (w.heap.size + 1)).R (ρ (.tmp 3)) W := hL 3 (by decide +kernel)
      rw [hφ] at b3
      obtain ⟨p3, e3, q3, l3, c3, z3⟩ := b3
      obtain ⟨g, cap, e6, hP⟩ := b6
      refine gUpon_of (W.setCell ⟨p3, 0, none⟩ (.slice (some ⟨g, 0, none⟩) n cap)) ?_ (fun _ => ?_)
      · simp [go_sem, hc, e3, e6, c3, l3, z3, gUpon]
      have hs1 := (Below.refl (w.heap.size + 1) W).setCell (p := ⟨p3, 0, none⟩) q3 (.slice (some ⟨g, 0, none⟩) n cap)
      refine ⟨⟨lies_box hC.1 hs1 (by omega), hC.2.trans (hs1.mono (by omega))⟩, fun t => ?_⟩
      refine tbl_imp rfl (fun _ => val_imp) (tbl_imp rfl (fun _ h => ?_) (tbl_imp rfl (fun _ => val_imp) (tbl_imp rfl (fun ht h => ?_) (tbl_imp rfl (fun _ h => ?_) tbl_nil_imp))))
      · obtain ⟨g2, cap2, e62, hP2⟩ := h
        exact ⟨g2, cap2, e62, hP2.set HN1.out c3 (by simp) 0 _⟩
      · subst ht
        show (bif (φ 5 || true) then SlotIs.sboxP (w.heap.size + 1) n else SlotIs.sbox0 (w.heap.size + 1)).R _ _
        rw [Bool.or_true]
        exact ⟨p3, e3, q3, by simpa [go_sem] using l3, g, cap, by simp [go_sem, c3], hP.set HN1.out c3 (by simp) 0 _⟩
      · show (bif (φ 6 || false) then SlotIs.boxM (w.heap.size + 1) (dgl a) else SlotIs.boxM (w.heap.size + 1) (fun _ => 0)).R _ _
        rw [Bool.or_false]
        revert h
        show (bif φ 6 then SlotIs.boxM (w.heap.size + 1) (dgl a) else SlotIs.boxM (w.heap.size + 1) (fun _ => 0)).R _ _ → _
        cases φ 6
        · exact fun h => boxM_set h c3 _
        · exact fun h => boxM_set h c3 _
    refine kStS rfl ⟨rfl, rfl, ?_⟩ ?_
    · intro φ ρ W hφ hC hc hL
      have b4 := hL 4 (by decide +kernel)
      have e7 : ρ (.tmp 7) = .agg #[.int .u64 (dgl (a) 0 : Nat), .int .u64 (dgl (a) 1 : Nat), .int .u64 (dgl (a) 2 : Nat), .int .u64 (dgl (a) 3 : Nat), .int .u64 (dgl (a) 4 : Nat), .int .u64 (dgl (a) 5 : Nat), .int .u64 (dgl (a) 6 : Nat), .int .u64 (dgl (a) 7 : Nat)] := hL 7 (by decide +kernel)
      have b4 : (bif φ 6 then SlotIs.boxM (w.heap.size + 1) (dgl a) else SlotIs.boxM (w.heap.size + 1) (fun _ => 0)).R (ρ (.tmp 4)) W := hL 4 (by decide +kernel)
      rw [hφ] at b4
      obtain ⟨p4, e4, q4, l4, z4, m4⟩ := b4
      have hr := l4.1
      have hrl := l4.2
      refine gUpon_of ((((((((W.setCell ⟨p4, 0, none⟩ (.int .u64 (dgl a 0 : Nat))).setCell ⟨p4, 1, none⟩ (.int .u64 (dgl a 1 : Nat))).setCell ⟨p4, 2, none⟩ (.int .u64 (dgl a 2 : Nat))).setCell ⟨p4, 3, none⟩ (.int .u64 (dgl a 3 : Nat))).setCell ⟨p4, 4, none⟩ (.int .u64 (dgl a 4 : Nat))).setCell ⟨p4, 5, none⟩ (.int .u64 (dgl a 5 : Nat))).setCell ⟨p4, 6, none⟩ (.int .u64 (dgl a 6 : Nat))).setCell ⟨p4, 7, none⟩ (.int .u64 (dgl a 7 : Nat))) ?_ (fun _ => ?_)
      · simp [go_sem, hc, e7, e4, hr, hrl, z4, gUpon]
      have hs8 := below_set8 (Below.refl (w.heap.size + 1) W) p4 q4 (.int .u64 (dgl a 0 : Nat)) (.int .u64 (dgl a 1 : Nat)) (.int .u64 (dgl a 2 : Nat)) (.int .u64 (dgl a 3 : Nat)) (.int .u64 (dgl a 4 : Nat)) (.int .u64 (dgl a 5 : Nat)) (.int .u64 (dgl a 6 : Nat)) (.int .u64 (dgl a 7 : Nat))
      have hon := onlyAt_set8 W p4 (.int .u64 (dgl a 0 : Nat)) (.int .u64 (dgl a 1 : Nat)) (.int .u64 (dgl a 2 : Nat)) (.int .u64 (dgl a 3 : Nat)) (.int .u64 (dgl a 4 : Nat)) (.int .u64 (dgl a 5 : Nat)) (.int .u64 (dgl a 6 : Nat)) (.int .u64 (dgl a 7 : Nat))
      have h0 := hr 0 (by decide)
      refine ⟨⟨lies_box hC.1 hs8 (by omega), hC.2.trans (hs8.mono (by omega))⟩, fun t => ?_⟩
      refine tbl_imp rfl (fun _ => val_imp) (tbl_imp rfl (fun _ h => ?_) (tbl_imp rfl (fun _ => val_imp) (tbl_imp rfl (fun _ h => ?_) (tbl_imp rfl (fun ht h => ?_) tbl_nil_imp))))
      · obtain ⟨g2, cap2, e62, hP2⟩ := h
        exact ⟨g2, cap2, e62, hP2.only HN1.out h0 (by simp) hon⟩
      · show (bif (φ 5 || false) then SlotIs.sboxP (w.heap.size + 1) n else SlotIs.sbox0 (w.heap.size + 1)).R _ _
        rw [Bool.or_false]
        revert h
        show (bif φ 5 then SlotIs.sboxP (w.heap.size + 1) n else SlotIs.sbox0 (w.heap.size + 1)).R _ _ → _
        cases φ 5
        · rintro ⟨b, e1, q1, l1, c1, z1⟩
          have hne : b ≠ p4 := fun he => by rw [he, h0] at c1; simp at c1
          exact ⟨b, e1, q1, Nat.lt_of_lt_of_le l1 hon.1, (hon.2 b 0 hne).trans c1, by simpa [go_sem] using z1⟩
        · rintro ⟨b, e1, q1, l1, g2, cap2, c1, hP2⟩
          have hne : b ≠ p4 := fun he => by rw [he, h0] at c1; simp at c1
          exact ⟨b, e1, q1, Nat.lt_of_lt_of_le l1 hon.1, g2, cap2, (hon.2 b 0 hne).trans c1, hP2.only HN1.out h0 (by simp) hon⟩
      · subst ht
        show (bif (φ 6 || true) then SlotIs.boxM (w.heap.size + 1) (dgl a) else SlotIs.boxM (w.heap.size + 1) (fun _ => 0)).R _ _
        rw [Bool.or_true]
        exact ⟨p4, e4, q4, set8_same W p4 (dgl a) (fun _ => 0) l4, fun i => by simpa [go_sem] using z4 i, by simpa [go_sem] using m4⟩
    exact kSt0
  · intro W hC
    refine gFi 5 rfl ?_
    rintro _ rfl
    refine gFi 6 rfl ?_
    rintro u6 b6
    refine gFi 7 rfl ?_
    rintro _ rfl
    refine gFi 3 rfl ?_
    rintro u3 b3
    refine gFi 4 rfl ?_
    rintro u4 b4
    refine gFiN rfl ?_
    refine gFiN rfl ?_
    refine gFi0 ?_
    simp only [List.drop_succ_cons, List.drop_zero, Act.put, List.setIfInBounds_toArray, List.set_cons_succ, List.set_cons_zero]
    obtain ⟨p3, rfl, q3, l3, g, cap, c3, hP⟩ := b3
    obtain ⟨p4, rfl, q4, l4, z4, m4⟩ := b4
    have hnS : p3 ≠ p4 := fun he => by rw [he, l4.1 0 (by decide)] at c3; simp at c3
    have HD : Hid (DecSt p4 p3 g n cap a W) := ⟨l4, z4, c3, l3, hP.gl, hP.cg, hnS⟩
    have HNG : Hid (1 < n → g ≠ p4) := fun h1n he => by
      have := hP.cg 1 0 h1n (by decide)
      rw [he, m4] at this
      simp at this
    have HCA := hide hP.ca
    have HB := hide hC.2
    have hP4 := hide q4
    clear hC h1 b6 l4 z4 m4 hP l3 hnS q3 q4
    have HWR := hide (HW.out p4 p3 g cap W (by have := hP4.out; omega) HCA.out HNG.out HD.out HB.out)
    clear HW HD HB hP4
    go_wp2_with fail
    refine HWR.out.mono ?_
    rintro e w2 ⟨rfl, hb2⟩
    have HB2 := hide hb2
    clear hb2 HWR c3
    go_wp2
    go_ret
    exact ⟨rfl, HB2.out⟩


end Go.Proofs.Ytjklehlkgccmnaa

