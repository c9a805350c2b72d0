/- Contracts and laws: ProdJ. -/
import Derived.Test.YtenbomfoihajhaaBaseN
/- Contracts: prod.Power. -/
set_option linter.unusedVariables false
set_option linter.unusedSimpArgs false
set_option maxRecDepth 8000
namespace Go.Proofs.Ytenbomfoihajhaa
open Go.RowKit Plain

theorem and1_i64 (n : Nat) : bits .and .i64 (n : Int) 1 = ((n % 2 : Nat) : Int) := by
  have h1 : (BitVec.ofInt 64 1).toNat = 2 ^ 1 - 1 := by decide
  have key : (BitVec.ofInt 64 (n : Int) &&& BitVec.ofInt 64 1).toNat = ((n : Int) % ((2 ^ 64 : Nat) : Int)).toNat % 2 ^ 1 := by
    rw [BitVec.toNat_and, BitVec.toNat_ofInt, h1, Nat.and_two_pow_sub_one_eq_mod]
  show IntKind.i64.wrap ((BitVec.ofInt 64 (n : Int) &&& BitVec.ofInt 64 1).toNat : Nat) = _
  rw [key, IntKind.wrap_i64]
  omega

structure PowSt (w : World) (r p6 p8 P S : Nat) (W : World) : Prop where
  lr : LiesF W r (fun _ => 0)
  fr : ∀ i, W.frozen? ⟨r, i, none⟩ = false
  l6 : LiesF W p6 (dgl P)
  f6 : ∀ i, W.frozen? ⟨p6, i, none⟩ = false
  l8 : LiesF W p8 (dgl S)
  f8 : ∀ i, W.frozen? ⟨p8, i, none⟩ = false
  bel : Below w.heap.size w W
  o1 : w.heap.size ≤ r
  o2 : r < p6
  o3 : p6 < p8
theorem PowSt.below {w : World} {r p6 p8 P S : Nat} {W W' : World} (h : PowSt w r p6 p8 P S W) (hb : Below W.heap.size W W') : PowSt w r p6 p8 P S W' :=
  ⟨h.lr.below hb, fun i => (hb.frozen (p := ⟨r, i, none⟩) h.lr.2).trans (h.fr i), h.l6.below hb, fun i => (hb.frozen (p := ⟨p6, i, none⟩) h.l6.2).trans (h.f6 i), h.l8.below hb, fun i => (hb.frozen (p := ⟨p8, i, none⟩) h.l8.2).trans (h.f8 i), below_trans h.bel hb, h.o1, h.o2, h.o3⟩
theorem PowSt.set6 {w : World} {r p6 p8 P S P' : Nat} {W : World} (h : PowSt w r p6 p8 P S W) : PowSt w r p6 p8 P' S ((((((((W.setCell ⟨p6, 0, none⟩ (.int .u64 (dgl P' 0 : Nat))).setCell ⟨p6, 1, none⟩ (.int .u64 (dgl P' 1 : Nat))).setCell ⟨p6, 2, none⟩ (.int .u64 (dgl P' 2 : Nat))).setCell ⟨p6, 3, none⟩ (.int .u64 (dgl P' 3 : Nat))).setCell ⟨p6, 4, none⟩ (.int .u64 (dgl P' 4 : Nat))).setCell ⟨p6, 5, none⟩ (.int .u64 (dgl P' 5 : Nat))).setCell ⟨p6, 6, none⟩ (.int .u64 (dgl P' 6 : Nat))).setCell ⟨p6, 7, none⟩ (.int .u64 (dgl P' 7 : Nat))) := by
  have h2 := h.o2
  have h3 := h.o3
  exact ⟨lies_ne h.lr (by omega), fun i => by simpa [go_sem] using h.fr i, set8_same W p6 (dgl P') (dgl P) h.l6, fun i => by simpa [go_sem] using h.f6 i, lies_ne h.l8 (by omega), fun i => by simpa [go_sem] using h.f8 i, below_set8 h.bel _ (by have := h.o1; omega) _ _ _ _ _ _ _ _, h.o1, h.o2, h.o3⟩
theorem PowSt.set8 {w : World} {r p6 p8 P S S' : Nat} {W : World} (h : PowSt w r p6 p8 P S W) : PowSt w r p6 p8 P S' ((((((((W.setCell ⟨p8, 0, none⟩ (.int .u64 (dgl S' 0 : Nat))).setCell ⟨p8, 1, none⟩ (.int .u64 (dgl S' 1 : Nat))).setCell ⟨p8, 2, none⟩ (.int .u64 (dgl S' 2 : Nat))).setCell ⟨p8, 3, none⟩ (.int .u64 (dgl S' 3 : Nat))).setCell ⟨p8, 4, none⟩ (.int .u64 (dgl S' 4 : Nat))).setCell ⟨p8, 5, none⟩ (.int .u64 (dgl S' 5 : Nat))).setCell ⟨p8, 6, none⟩ (.int .u64 (dgl S' 6 : Nat))).setCell ⟨p8, 7, none⟩ (.int .u64 (dgl S' 7 : Nat))) := by
  have h2 := h.o2
  have h3 := h.o3
  exact ⟨lies_ne h.lr (by omega), fun i => by simpa [go_sem] using h.fr i, lies_ne h.l6 (by omega), fun i => by simpa [go_sem] using h.f6 i, set8_same W p8 (dgl S') (dgl S) h.l8, fun i => by simpa [go_sem] using h.f8 i, below_set8 h.bel _ (by have := h.o1; omega) _ _ _ _ _ _ _ _, h.o1, h.o2, h.o3⟩

/-- What fits of a product, if neither part is 0 beside one that doesn't fit. -/
theorem fits_mul (P S : Nat) (h1 : QQ ≤ S → 1 ≤ P) (h2 : QQ ≤ P → 1 ≤ S) : (decide (P < QQ) && decide (S < QQ) && decide (P % QQ * (S % QQ) < QQ)) = decide (P * S < QQ) := by
  rw [Bool.eq_iff_iff]
  simp only [Bool.and_eq_true, decide_eq_true_eq]
  constructor
  · rintro ⟨⟨a, b⟩, c⟩
    rw [Nat.mod_eq_of_lt a, Nat.mod_eq_of_lt b] at c
    exact c
  · intro h
    have a : P < QQ := by
      apply Nat.lt_of_not_le
      intro hc
      have := Nat.mul_le_mul hc (h2 hc)
      omega
    have b : S < QQ := by
      apply Nat.lt_of_not_le
      intro hc
      have := Nat.mul_le_mul (h1 hc) hc
      omega
    exact ⟨⟨a, b⟩, by rw [Nat.mod_eq_of_lt a, Nat.mod_eq_of_lt b]; exact h⟩
theorem fits_sq (S : Nat) : (decide (S < QQ) && decide (S % QQ * (S % QQ) < QQ)) = decide (S * S < QQ) := by
  have h := fits_mul S S (fun h => Nat.le_trans (by have := one_lt_qq; omega) h) (fun h => Nat.le_trans (by have := one_lt_qq; omega) h)
  rw [Bool.and_self] at h
  exact h
theorem pow_pair (a x y : Nat) (hy : 1 ≤ y) : (QQ ≤ a ^ y → 1 ≤ a ^ x) ∧ (QQ ≤ a ^ x → 1 ≤ a ^ y) := by
  rcases Nat.eq_zero_or_pos a with h | h
  · subst h
    have h1 := one_lt_qq
    constructor
    · rw [Nat.zero_pow (by omega)]; intro h; omega
    · intro h
      have : 0 ^ x ≤ 1 := by
        cases x with
        | zero => exact Nat.le_refl _
        | succ x => rw [Nat.zero_pow (by omega)]; omega
      omega
  · exact ⟨fun _ => Nat.pow_pos h, fun _ => Nat.pow_pos h⟩
theorem pow_step (N j : Nat) : (N / 2 ^ j % 2 = 1 → N % 2 ^ (j + 1) = N % 2 ^ j + 2 ^ j) ∧ (N / 2 ^ j % 2 = 0 → N % 2 ^ (j + 1) = N % 2 ^ j) := by
  have h : N % 2 ^ (j + 1) = N % 2 ^ j + 2 ^ j * (N / 2 ^ j % 2) := by rw [Nat.pow_succ, Nat.mod_mul]
  constructor
  · intro h1; rw [h, h1, Nat.mul_one]
  · intro h1; rw [h, h1, Nat.mul_zero, Nat.add_zero]

set_option maxHeartbeats 8000000 in
theorem prodPower_any (a N : Nat) (n : Int) (hN : (N : Int) = max n 0) (hn : n ≤ 9223372036854775807) (ha : a < QQ) (w : World) :
    Calls Try.prog 53 #[.agg #[.int .u64 (dgl (a) 0 : Nat), .int .u64 (dgl (a) 1 : Nat), .int .u64 (dgl (a) 2 : Nat), .int .u64 (dgl (a) 3 : Nat), .int .u64 (dgl (a) 4 : Nat), .int .u64 (dgl (a) 5 : Nat), .int .u64 (dgl (a) 6 : Nat), .int .u64 (dgl (a) 7 : Nat)], .int .i64 n] w fun e w' => e = .returned (.tuple #[.agg #[.int .u64 (dgl (a ^ N) 0 : Nat), .int .u64 (dgl (a ^ N) 1 : Nat), .int .u64 (dgl (a ^ N) 2 : Nat), .int .u64 (dgl (a ^ N) 3 : Nat), .int .u64 (dgl (a ^ N) 4 : Nat), .int .u64 (dgl (a ^ N) 5 : Nat), .int .u64 (dgl (a ^ N) 6 : Nat), .int .u64 (dgl (a ^ N) 7 : Nat)], .bool (decide (a ^ N < QQ))]) ∧ Below w.heap.size w w' := by
  have hq0 : 0 < QQ := by omega
  have HMUL : Hid (∀ P S w, Calls Try.prog 43 #[.agg #[.int .u64 (dgl (P) 0 : Nat), .int .u64 (dgl (P) 1 : Nat), .int .u64 (dgl (P) 2 : Nat), .int .u64 (dgl (P) 3 : Nat), .int .u64 (dgl (P) 4 : Nat), .int .u64 (dgl (P) 5 : Nat), .int .u64 (dgl (P) 6 : Nat), .int .u64 (dgl (P) 7 : Nat)], .agg #[.int .u64 (dgl (S) 0 : Nat), .int .u64 (dgl (S) 1 : Nat), .int .u64 (dgl (S) 2 : Nat), .int .u64 (dgl (S) 3 : Nat), .int .u64 (dgl (S) 4 : Nat), .int .u64 (dgl (S) 5 : Nat), .int .u64 (dgl (S) 6 : Nat), .int .u64 (dgl (S) 7 : Nat)]] w fun e w' => e = .returned (.tuple #[.agg #[.int .u64 (dgl (P * S) 0 : Nat), .int .u64 (dgl (P * S) 1 : Nat), .int .u64 (dgl (P * S) 2 : Nat), .int .u64 (dgl (P * S) 3 : Nat), .int .u64 (dgl (P * S) 4 : Nat), .int .u64 (dgl (P * S) 5 : Nat), .int .u64 (dgl (P * S) 6 : Nat), .int .u64 (dgl (P * S) 7 : Nat)], .bool (decide (P % QQ * (S % QQ) < QQ))]) ∧ Below w.heap.size w w') := by
    intro P S w
    have h := prodMul_any (P % QQ) (S % QQ) (Nat.mod_lt _ hq0) (Nat.mod_lt _ hq0) w
    rw [w8_mod (Nat.mod_mod P QQ), w8_mod (Nat.mod_mod S QQ), w8_mod (show (P % QQ * (S % QQ)) % QQ = (P * S) % QQ from (Nat.mul_mod P S QQ).symm)] at h
    exact h
  have HSQ : Hid (∀ S w, Calls Try.prog 45 #[.agg #[.int .u64 (dgl (S) 0 : Nat), .int .u64 (dgl (S) 1 : Nat), .int .u64 (dgl (S) 2 : Nat), .int .u64 (dgl (S) 3 : Nat), .int .u64 (dgl (S) 4 : Nat), .int .u64 (dgl (S) 5 : Nat), .int .u64 (dgl (S) 6 : Nat), .int .u64 (dgl (S) 7 : Nat)]] w fun e w' => e = .returned (.tuple #[.agg #[.int .u64 (dgl (S * S) 0 : Nat), .int .u64 (dgl (S * S) 1 : Nat), .int .u64 (dgl (S * S) 2 : Nat), .int .u64 (dgl (S * S) 3 : Nat), .int .u64 (dgl (S * S) 4 : Nat), .int .u64 (dgl (S * S) 5 : Nat), .int .u64 (dgl (S * S) 6 : Nat), .int .u64 (dgl (S * S) 7 : Nat)], .bool (decide (S % QQ * (S % QQ) < QQ))]) ∧ Below w.heap.size w w') := by
    intro S w
    have h := prodSquare_any (S % QQ) (Nat.mod_lt _ hq0) w
    rw [w8_mod (Nat.mod_mod S QQ), w8_mod (show (S % QQ * (S % QQ)) % QQ = (S * S) % QQ from (Nat.mul_mod S S QQ).symm)] at h
    exact h
  have HF1 : Hid (decide (a ^ (2 ^ 0) < QQ) = true) := by rw [Nat.pow_zero, Nat.pow_one]; exact decide_eq_true ha
  have HF0 : Hid (decide (a ^ (N % 2 ^ 0) < QQ) = true) := by rw [Nat.pow_zero, Nat.mod_one, Nat.pow_zero]; exact decide_eq_true one_lt_qq
  have HST := hide (shrSt_start (dgl a) w)
  have HN := hide hN
  have hN2 : (N : Int) ≤ 9223372036854775807 := by omega
  clear ha hN hq0
  go_enter Try.func53, Try.ntmps53
  go_wp2_with fail
  refine (wideOf_one _ _ (by simp)).mono ?_
  rintro e w1 ⟨rfl, hb1⟩
  replace HST := hide (HST.out.below hb1)
  clear hb1
  go_upto_region 2 with fail
  refine wp_gen (fun W => ShrSt w.heap.size w (dgl a) (fun _ => 0) W ∧ LiesF W w1.heap.size (dgl 1) ∧ (∀ i, W.frozen? ⟨w1.heap.size, i, none⟩ = false) ∧ W.heap.size = w1.heap.size + 1) ⟨HST.out.below (below_allocs _ _), liesF_new _ _ _, fun i => by simp [go_sem], by simp⟩ ?_
  rintro W2 ⟨h1, h2, h3, h4⟩
  have hca := h1.la.1
  go_upto_region 3 with fail
  refine wp_gen (fun W => PowSt w (w.heap.size + 1) w1.heap.size (w1.heap.size + 1) (a ^ (N % 2 ^ 0)) (a ^ (2 ^ 0)) W) ?_ ?_
  · have hl := liesF_new W2 (dgl a) 24
    rw [h4] at hl
    rw [Nat.pow_zero, Nat.mod_one, Nat.pow_zero, Nat.pow_one]
    have hbw := below_allocs W2 (.cells #[.int .u64 (dgl (a) 0 : Nat), .int .u64 (dgl (a) 1 : Nat), .int .u64 (dgl (a) 2 : Nat), .int .u64 (dgl (a) 3 : Nat), .int .u64 (dgl (a) 4 : Nat), .int .u64 (dgl (a) 5 : Nat), .int .u64 (dgl (a) 6 : Nat), .int .u64 (dgl (a) 7 : Nat)] 24)
    refine ⟨h1.lr.alloc _, fun i => (hbw.frozen (p := ⟨w.heap.size + 1, i, none⟩) h1.lr.2).trans (h1.fr i), h2.alloc _, fun i => (hbw.frozen (p := ⟨w1.heap.size, i, none⟩) h2.2).trans (h3 i), ?_, fun i => ?_, h1.bel.trans (hbw.mono (Nat.le_of_lt h1.la.2)), by omega, HST.out.lr.2, by omega⟩
    · exact hl
    · simp [go_sem, ← h4]
  rintro W3 hst3
  clear h1 h2 h3 hca
  generalize hp6 : w1.heap.size = p6 at *
  obtain ⟨p8, hp8⟩ : ∃ p8, p6 + 1 = p8 := ⟨_, rfl⟩
  rw [hp8] at hst3 ⊢
  obtain ⟨r, hr⟩ : ∃ r, w.heap.size + 1 = r := ⟨_, rfl⟩
  rw [hr] at hst3 ⊢
  clear HST h4 hp6 hp8
  go_cut [1] (fun x wx => x = .int .i64 (N : Nat) ∧ wx = W3)
  case first =>
    go_wp2
    all_goals
      go_meet
      exact ⟨by rw [HN.out]; first | done | (congr 1; omega), rfl⟩
  case rest =>
  obtain ⟨rfl, rfl⟩ := hcut
  go_wp2
  go_loopw [1, 7, 9] (fun x f g wr => ∃ j m : Nat, m = N / 2 ^ j ∧ x = .int .i64 m ∧ f = .bool (decide (a ^ (N % 2 ^ j) < QQ)) ∧ g = .bool (decide (a ^ (2 ^ j) < QQ)) ∧ Hid (PowSt w r p6 p8 (a ^ (N % 2 ^ j)) (a ^ (2 ^ j)) wr))
    (fun x _ _ _ => (intOf x).toNat)
  case atStart => exact ⟨0, N, by rw [Nat.pow_zero, Nat.div_one], rfl, by rw [HF0.out], by rw [HF1.out], hst3⟩
  case round =>
    clear hst3 HF0 HF1
    obtain ⟨j, m, hm, rfl, rfl, rfl, hst⟩ := hrel
    by_cases h0 : m = 0
    · have HE : Hid (a ^ (N % 2 ^ j) = a ^ N) := by
        have h2 : N / 2 ^ j = 0 := by omega
        have h3 := (Nat.div_eq_zero_iff_lt (Nat.two_pow_pos j)).1 h2
        show a ^ (N % 2 ^ j) = a ^ N
        rw [Nat.mod_eq_of_lt h3]
      rw [HE.out] at hst ⊢
      have hm0 : ¬ 0 < (m : Int) := by omega
      have hc6 := hst.out.l6.1
      have hr0 := hst.out.lr.1
      have hrf := hst.out.fr
      have hl := hst.out.lr.2
      have HB := hide hst.out.bel
      have HO := hide hst.out.o1
      clear hst h0 hm
      go_wp2
      exact bodyPost_ret (v := .tuple #[.agg #[.int .u64 (dgl (a ^ N) 0 : Nat), .int .u64 (dgl (a ^ N) 1 : Nat), .int .u64 (dgl (a ^ N) 2 : Nat), .int .u64 (dgl (a ^ N) 3 : Nat), .int .u64 (dgl (a ^ N) 4 : Nat), .int .u64 (dgl (a ^ N) 5 : Nat), .int .u64 (dgl (a ^ N) 6 : Nat), .int .u64 (dgl (a ^ N) 7 : Nat)], .bool (decide (a ^ N < QQ))]) (by simp [results, Try.results53, go_sem, hr0, hl]) rfl ⟨rfl, below_set8 HB.out _ HO.out _ _ _ _ _ _ _ _⟩
    · have hpos : 0 < (m : Int) := by omega
      have hle : (m : Int) ≤ 9223372036854775807 := by
        have := Nat.div_le_self N (2 ^ j)
        omega
      have HM2 : Hid (m / 2 = N / 2 ^ (j + 1)) := by rw [hm, Nat.div_div_eq_div_mul, ← Nat.pow_succ]; rfl
      have HSQ2 : Hid (a ^ (2 ^ (j + 1)) = a ^ (2 ^ j) * a ^ (2 ^ j)) := by
        show a ^ (2 ^ (j + 1)) = a ^ (2 ^ j) * a ^ (2 ^ j)
        rw [← Nat.pow_add]; congr 1; rw [Nat.pow_succ]; omega
      have HFS := hide (fits_sq (a ^ (2 ^ j)))
      have hpp := pow_pair a (N % 2 ^ j) (2 ^ j) (Nat.two_pow_pos j)
      have HFIT := hide (fits_mul (a ^ (N % 2 ^ j)) (a ^ (2 ^ j)) hpp.1 hpp.2)
      have HPS := hide (pow_step N j)
      have HP1 : Hid (m % 2 = 1 → a ^ (N % 2 ^ (j + 1)) = a ^ (N % 2 ^ j) * a ^ (2 ^ j)) := by
        intro h1
        rw [HPS.out.1 (by rw [← hm]; exact h1), Nat.pow_add]
      have HP0 : Hid (m % 2 = 0 → a ^ (N % 2 ^ (j + 1)) = a ^ (N % 2 ^ j)) := by
        intro h1
        rw [HPS.out.2 (by rw [← hm]; exact h1)]
      clear hm HPS hpp h0
      generalize a ^ (N % 2 ^ j) = P at *
      generalize a ^ (2 ^ j) = Sq at *
      generalize hF : decide (P < QQ) = F at *
      have HDF := hide hF
      clear hF
      generalize decide (Sq < QQ) = G at *
      by_cases hb : m % 2 = 1
      · have hbit : bits .and .i64 (m : Int) 1 = 1 := by rw [and1_i64]; omega
        have HNP := hide (HP1.out hb)
        clear HP0 HP1 hb
        have hc6 := hst.out.l6.1
        have hc8 := hst.out.l8.1
        go_wp2_with fail
        refine (HMUL.out _ _ _).mono ?_
        rintro e w2 ⟨rfl, hb2⟩
        have HS2 := hide (hst.out.below hb2)
        clear hc6 hc8 hb2 hst
        have hc6 := HS2.out.l6.1
        have hf6 := HS2.out.f6
        have hl6 := HS2.out.l6.2
        generalize decide (P % QQ * (Sq % QQ) < QQ) = B at *
        go_upto_region 9 with fail
        refine wp_gen (fun W => PowSt w r p6 p8 (P * Sq) Sq W) HS2.out.set6 ?_
        rintro W3 h3
        clear hc6 hf6 hl6 HS2
        replace h3 := hide h3
        cases F <;> cases G
        all_goals
          have hc8 := h3.out.l8.1
          go_wp2_with fail
          refine (HSQ.out _ _).mono ?_
          rintro e w4 ⟨rfl, hb4⟩
          have HS4 := hide (h3.out.below hb4)
          clear hc8 hb4 h3
          have hc8 := HS4.out.l8.1
          have hf8 := HS4.out.f8
          have hl8 := HS4.out.l8.2
          go_wp2
          go_roundw
          case rel =>
            refine ⟨j + 1, m / 2, HM2.out, by go_num, ?_, ?_, ?_⟩
            · rw [HNP.out]; rw [← HFIT.out]; simp
            · rw [HSQ2.out, ← HFS.out]; simp
            · rw [HNP.out, HSQ2.out]; exact HS4.out.set8
          case measure => simp [intOf]; omega
      · have hbit : bits .and .i64 (m : Int) 1 = 0 := by rw [and1_i64]; omega
        have HNP := hide (HP0.out (by omega))
        clear HP0 HP1 hb HFIT
        have h3 := hst
        clear hst
        cases G
        all_goals
          have hc8 := h3.out.l8.1
          go_wp2_with fail
          refine (HSQ.out _ _).mono ?_
          rintro e w4 ⟨rfl, hb4⟩
          have HS4 := hide (h3.out.below hb4)
          clear hc8 hb4 h3
          have hc8 := HS4.out.l8.1
          have hf8 := HS4.out.f8
          have hl8 := HS4.out.l8.2
          go_wp2
          go_roundw
          case rel =>
            refine ⟨j + 1, m / 2, HM2.out, by go_num, ?_, ?_, ?_⟩
            · rw [HNP.out, HDF.out]
            · rw [HSQ2.out, ← HFS.out]; simp
            · rw [HNP.out, HSQ2.out]; exact HS4.out.set8
          case measure => simp [intOf]; omega

end Go.Proofs.Ytenbomfoihajhaa

