/- Contracts and laws: FmtK, ClsA, PckL. -/
import Derived.Test.YtpcjdllijkjdkaaDoorPartAP
import Derived.Deep.DeepCutAuto
import Derived.Test.YtpcjdllijkjdkaaDoorPartAC
/- Contracts: radicandref05.Bit, Fits; format.Fits. -/
set_option linter.unusedVariables false
set_option linter.unusedSimpArgs false
set_option maxRecDepth 8000
namespace Go.Proofs.YtpcjdllijkjdkaaDoor
open Go.RowKit Plain

theorem ret_bl {a b : Bool} (h : a = b) : Ending.returned (.bool a) = Ending.returned (.bool b) := by rw [h]
theorem bit_int (x n : Nat) : ((((x : Int) / 2 ^ n).tmod 2) == 1) = (x / 2 ^ n % 2 == 1) := by
  have h : (x : Int) / 2 ^ n = ((x / 2 ^ n : Nat) : Int) := by rw [Int.natCast_ediv, Int.natCast_pow]; rfl
  rw [h]
  generalize x / 2 ^ n = y
  rw [Int.tmod_eq_emod_of_nonneg (by omega), Bool.eq_iff_iff]
  simp only [beq_iff_eq]
  omega
theorem bit_low (hi lo n : Nat) (h : n < 64) : (lo + 18446744073709551616 * hi) / 2 ^ n % 2 = lo / 2 ^ n % 2 := by
  have e : 18446744073709551616 * hi = 2 ^ n * (2 * (2 ^ (63 - n) * hi)) := by
    rw [← Nat.mul_assoc 2, ← Nat.pow_succ', ← Nat.mul_assoc, ← Nat.pow_add, show n + (63 - n + 1) = 64 by omega]
  rw [e, Nat.add_mul_div_left _ _ (Nat.two_pow_pos n)]
  omega
theorem bit_high (hi lo n : Nat) (hl : lo < 18446744073709551616) (h : ¬ n < 64) : (lo + 18446744073709551616 * hi) / 2 ^ n = hi / 2 ^ (n - 64) := by
  have e : 2 ^ n = 18446744073709551616 * 2 ^ (n - 64) := by
    rw [show (18446744073709551616 : Nat) = 2 ^ 64 by decide +kernel, ← Nat.pow_add, show 64 + (n - 64) = n by omega]
  rw [e, ← Nat.div_div_eq_div_mul, Nat.add_mul_div_left _ _ (by decide), Nat.div_eq_of_lt hl, Nat.zero_add]

set_option maxHeartbeats 1000000 in
theorem refBit5_any (hi lo n : Nat) (hh : hi < 18446744073709551616) (hl : lo < 18446744073709551616) (hn : n < 128) (x : Int) (hx : x = (n : Int)) (w : World) :
    Calls Tryd.prog 78 #[.agg #[.int .u64 (hi : Nat), .int .u64 (lo : Nat)], .int .i64 x] w fun e w' => e = .returned (.bool ((lo + 18446744073709551616 * hi) / 2 ^ n % 2 == 1)) ∧ Below w.heap.size w w' := by
  subst hx
  by_cases h : n < 64
  · have h64 : ¬ (64 : Int) ≤ (n : Int) := by omega
    have h0 : 0 ≤ (n : Int) := by omega
    go_enter Tryd.func78, Tryd.ntmps78
    go_wp2
    go_ret
    exact ⟨ret_bl (by rw [bit_low hi lo n h]; exact bit_int lo n), below_allocs _ _⟩
  · have h64 : (64 : Int) ≤ (n : Int) := by omega
    have h0 : 0 ≤ (n : Int) - 64 := by omega
    go_enter Tryd.func78, Tryd.ntmps78
    go_wp2
    go_ret
    exact ⟨ret_bl (by rw [bit_high hi lo n hl h]; exact bit_int hi (n - 64)), below_allocs _ _⟩

theorem lt_of_bits (a B : Nat) : ∀ d, a < 2 ^ (B + d) → (∀ m, B ≤ m → m < B + d → ¬ a / 2 ^ m % 2 = 1) → a < 2 ^ B
  | 0, h, _ => h
  | d + 1, h, hb => by
    refine lt_of_bits a B d ?_ (fun m h1 h2 => hb m h1 (by omega))
    have h3 := hb (B + d) (by omega) (by omega)
    have h4 : a / 2 ^ (B + d) < 2 := by
      rw [Nat.div_lt_iff_lt_mul (Nat.two_pow_pos _), ← Nat.pow_succ']
      exact h
    have h5 : a / 2 ^ (B + d) = 0 := by
      generalize a / 2 ^ (B + d) = y at h3 h4 ⊢
      omega
    rcases Nat.div_eq_zero_iff.1 h5 with h6 | h6
    · exact absurd h6 (Nat.ne_of_gt (Nat.two_pow_pos _))
    · exact h6
theorem ge_of_bit {a m B : Nat} (h : a / 2 ^ m % 2 = 1) (hm : B ≤ m) : ¬ a < 2 ^ B := by
  intro h1
  have h2 : a < 2 ^ m := Nat.lt_of_lt_of_le h1 (Nat.pow_le_pow_right (by decide) hm)
  rw [Nat.div_eq_of_lt h2] at h
  omega

set_option maxHeartbeats 1000000 in
theorem refFits_none (f : Int) (h : f < 1 ∨ 4 < f) (hi lo : Nat) (w : World) : Calls Tryd.prog 74 #[.int .i64 f, .agg #[.int .u64 (hi : Nat), .int .u64 (lo : Nat)]] w fun e w' => e = .returned (.bool false) ∧ Below w.heap.size w w' := by
  have HI := hide (fun w => is_none f h w)
  clear h
  go_enter Tryd.func74, Tryd.ntmps74
  go_wp2_with fail
  refine (HI.out _).mono ?_
  rintro e w1 ⟨rfl, hw⟩
  subst w1
  go_wp2
  go_ret
  exact ⟨rfl, below_allocs _ _⟩

structure FitSt (hi lo : Nat) (w W : World) : Prop where
  h : W.cell? ⟨w.heap.size, 0, none⟩ = some (.int .u64 (hi : Nat))
  l : W.cell? ⟨w.heap.size, 1, none⟩ = some (.int .u64 (lo : Nat))
  lt : w.heap.size < W.heap.size
  bel : Below w.heap.size w W
theorem FitSt.below {hi lo : Nat} {w W W' : World} (h : FitSt hi lo w W) (hb : Below W.heap.size W W') : FitSt hi lo w W' :=
  ⟨(hb.cell (p := ⟨w.heap.size, 0, none⟩) h.lt).trans h.h, (hb.cell (p := ⟨w.heap.size, 1, none⟩) h.lt).trans h.l, Nat.lt_of_lt_of_le h.lt hb.size, below_trans h.bel hb⟩
theorem fitSt_start (hi lo : Nat) (w : World) : FitSt hi lo w (w.alloc (.cells #[.int .u64 (hi : Nat), .int .u64 (lo : Nat)] 28)) :=
  ⟨by simp [go_sem], by simp [go_sem], by simp, below_allocs _ _⟩

set_option maxHeartbeats 1000000 in
theorem refFits_walk (f : Int) (B hi lo : Nat) (hB : B ≤ 128) (hh : hi < 18446744073709551616) (hl : lo < 18446744073709551616)
    (HI : Hid (∀ w, Calls Tryd.prog 12 #[.int .i64 f] w fun e w' => e = .returned (.bool true) ∧ w' = w))
    (HN : Hid (∀ w, Calls Tryd.prog 102 #[.int .i64 f] w fun e w' => e = .returned (.int .i64 (B : Nat)) ∧ w' = w)) (w : World) :
    Calls Tryd.prog 74 #[.int .i64 f, .agg #[.int .u64 (hi : Nat), .int .u64 (lo : Nat)]] w fun e w' => e = .returned (.bool (decide ((lo + 18446744073709551616 * hi) < 2 ^ B))) ∧ Below w.heap.size w w' := by
  have HBT := hide (fun n hn w => refBit5_any hi lo n hh hl hn (n : Int) rfl w)
  have HA : Hid ((lo + 18446744073709551616 * hi) < 2 ^ 128) := by unfold Hid; omega
  have HST := hide (fitSt_start hi lo w)
  clear hh hl
  generalize (lo + 18446744073709551616 * hi) = a at *
  go_enter Tryd.func74, Tryd.ntmps74
  go_wp2_with fail
  refine (HI.out _).mono ?_
  rintro e w1 ⟨rfl, hw⟩
  subst w1
  go_wp2_with fail
  refine (HN.out _).mono ?_
  rintro e w1 ⟨rfl, hw⟩
  subst w1
  go_wp2
  go_loopw [5] (fun i wr => ∃ n : Nat, B ≤ n ∧ n ≤ 128 ∧ i = .int .i64 n ∧ Hid (∀ m, B ≤ m → m < n → ¬ a / 2 ^ m % 2 = 1) ∧ Hid (FitSt hi lo w wr)) (fun i _ => 128 - (intOf i).toNat)
  case atStart => exact ⟨B, Nat.le_refl _, hB, rfl, fun m h1 h2 => by omega, HST⟩
  case round =>
    clear HST HI HN
    obtain ⟨n, hn1, hn2, rfl, hall, hst⟩ := hrel
    by_cases hlt : n < 128
    · have hj : (n : Int) < 128 := by omega
      have c0 := hst.out.h
      have c1 := hst.out.l
      have c2 := hst.out.lt
      go_wp2_with fail
      refine (HBT.out n hlt _).mono ?_
      rintro e w1 ⟨rfl, hb1⟩
      have HS1 := hide (hst.out.below hb1)
      clear hb1 c0 c1 c2
      by_cases hbit : a / 2 ^ n % 2 = 1
      · have HR : Hid (false = decide (a < 2 ^ B)) := by unfold Hid; rw [decide_eq_false (ge_of_bit hbit hn1)]
        have hbb : (a / 2 ^ n % 2 == 1) = true := by rw [beq_iff_eq]; exact hbit
        rw [hbb]
        clear hbit hbb hall
        go_wp2
        go_ret
        exact ⟨ret_bl HR.out, HS1.out.bel⟩
      · have hbb : (a / 2 ^ n % 2 == 1) = false := by rw [beq_eq_false_iff_ne]; exact hbit
        rw [hbb]
        have HALL : Hid (∀ m, B ≤ m → m < n + 1 → ¬ a / 2 ^ m % 2 = 1) := fun m h1 h2 => by
          rcases Nat.lt_or_ge m n with h3 | h3
          · exact hall.out m h1 h3
          · rw [show m = n by omega]; exact hbit
        clear hbit hbb hall
        go_wp2
        go_roundw
        case rel => exact ⟨n + 1, by omega, by omega, rfl, HALL, HS1⟩
        case measure =>
          show 128 - ((n : Int) + 1).toNat < 128 - ((n : Int)).toNat
          omega
    · have hj : ¬ (n : Int) < 128 := by omega
      have HR : Hid (true = decide (a < 2 ^ B)) := by
        unfold Hid
        rw [decide_eq_true (lt_of_bits a B (128 - B) (by rw [show B + (128 - B) = 128 by omega]; exact HA.out) (fun m h1 h2 => hall.out m h1 (by omega)))]
      clear hall
      go_wp2
      go_ret
      exact ⟨ret_bl HR.out, hst.out.bel⟩
theorem refFits_1 (hi lo : Nat) (hh : hi < 18446744073709551616) (hl : lo < 18446744073709551616) (w : World) : Calls Tryd.prog 74 #[.int .i64 1, .agg #[.int .u64 (hi : Nat), .int .u64 (lo : Nat)]] w fun e w' => e = .returned (.bool (decide ((lo + 18446744073709551616 * hi) < 2 ^ 16))) ∧ Below w.heap.size w w' :=
  refFits_walk 1 16 hi lo (by decide) hh hl (fun w => is_1 w) (fun w => bits_1 w) w
theorem refFits_2 (hi lo : Nat) (hh : hi < 18446744073709551616) (hl : lo < 18446744073709551616) (w : World) : Calls Tryd.prog 74 #[.int .i64 2, .agg #[.int .u64 (hi : Nat), .int .u64 (lo : Nat)]] w fun e w' => e = .returned (.bool (decide ((lo + 18446744073709551616 * hi) < 2 ^ 32))) ∧ Below w.heap.size w w' :=
  refFits_walk 2 32 hi lo (by decide) hh hl (fun w => is_2 w) (fun w => bits_2 w) w
theorem refFits_3 (hi lo : Nat) (hh : hi < 18446744073709551616) (hl : lo < 18446744073709551616) (w : World) : Calls Tryd.prog 74 #[.int .i64 3, .agg #[.int .u64 (hi : Nat), .int .u64 (lo : Nat)]] w fun e w' => e = .returned (.bool (decide ((lo + 18446744073709551616 * hi) < 2 ^ 64))) ∧ Below w.heap.size w w' :=
  refFits_walk 3 64 hi lo (by decide) hh hl (fun w => is_3 w) (fun w => bits_3 w) w
theorem refFits_4 (hi lo : Nat) (hh : hi < 18446744073709551616) (hl : lo < 18446744073709551616) (w : World) : Calls Tryd.prog 74 #[.int .i64 4, .agg #[.int .u64 (hi : Nat), .int .u64 (lo : Nat)]] w fun e w' => e = .returned (.bool (decide ((lo + 18446744073709551616 * hi) < 2 ^ 128))) ∧ Below w.heap.size w w' :=
  refFits_walk 4 128 hi lo (by decide) hh hl (fun w => is_4 w) (fun w => bits_4 w) w

theorem len_le (a B : Nat) : (Go.bitLen a ≤ B) ↔ a < 2 ^ B := by
  constructor
  · intro h
    exact Nat.lt_of_lt_of_le (bitLen_spec a).1 (Nat.pow_le_pow_right (by decide) h)
  · intro h
    exact pow_inj_len (β := 2) (a := B) (b := Go.bitLen a) (by decide) h (by
      by_cases h0 : a = 0
      · exact .inl (by rw [h0]; rfl)
      · exact .inr ((bitLen_spec a).2 h0))
structure Fit2St (p : Nat) (hi lo : Nat) (w : World) (k : Nat → Int) (W : World) : Prop where
  s : FitSt hi lo w W
  rk : ∀ i, i < 5 → W.cell? ⟨p, i, none⟩ = some (.int .i64 (k i))
  lk : p < W.heap.size
theorem Fit2St.below {p hi lo : Nat} {w : World} {k : Nat → Int} {W W' : World} (h : Fit2St p hi lo w k W) (hb : Below W.heap.size W W') : Fit2St p hi lo w k W' :=
  ⟨h.s.below hb, fun i hi => (hb.cell (p := ⟨p, i, none⟩) h.lk).trans (h.rk i hi), Nat.lt_of_lt_of_le h.lk hb.size⟩
theorem fit2St_start (hi lo : Nat) (k : Nat → Int) (w w1 : World) (hs : FitSt hi lo w w1) : Fit2St w1.heap.size hi lo w k (w1.alloc (.cells #[.int .i64 (k 0), .int .i64 (k 1), .int .i64 (k 2), .int .i64 (k 3), .int .i64 (k 4)] 85)) :=
  ⟨hs.below (below_allocs _ _), fun i hi => rec5_new w1 k _ i hi, by simp⟩

set_option maxHeartbeats 1000000 in
theorem fits_none (f : Int) (h : f < 1 ∨ 4 < f) (hi lo : Nat) (w : World) : Calls Tryd.prog 155 #[.int .i64 f, .agg #[.int .u64 (hi : Nat), .int .u64 (lo : Nat)]] w fun e w' => e = .returned (.bool false) ∧ Below w.heap.size w w' := by
  have HO := hide (fun w => of_none f h w)
  have HST := hide (fitSt_start hi lo w)
  clear h
  go_enter Tryd.func155, Tryd.ntmps155
  go_wp2_with fail
  refine (HO.out _).mono ?_
  rintro e w1 ⟨rfl, hb1⟩
  have HS2 := hide (fit2St_start hi lo (fun _ => 0) w w1 (HST.out.below hb1))
  clear HST hb1
  go_upto_region 2 with fail
  refine wp_gen (fun W => Fit2St w1.heap.size hi lo w (fun _ => 0) W) HS2.out ?_
  clear HS2
  rintro W1 h1
  generalize w1.heap.size = p at *
  refine wp_region_grow 9 [(12, .val (.bool false)), (13, .val (.bool false)), (14, .val (undef)), (15, .val (undef)), (16, .val (undef)), (17, .val (undef)), (18, .val (undef)), (19, .val (undef)), (20, .val (.bool false))]
    (fun W => Fit2St p hi lo w (fun _ => 0) W) mixedOk (by kernel_rfl) (by kernel_rfl) (h1.below (Below.refl _ _).drew) (fun W W' h hb => h.below hb) ?_ ?_
  · refine gSt (gStep_run rfl (gRun_move 6 12 (.inl rfl) rfl (by decide +kernel) (fun v w h => h))) ?_
    refine gSt (gStep_run rfl (gRun_move 12 13 (.inl rfl) rfl (by decide +kernel) (fun v w h => h))) ?_
    refine gSt (gStep_off 1 13 true rfl rfl (by decide +kernel) (fun v w h => h) (fun w => rfl)) ?_
    refine gSt (gStep_off 1 13 true rfl rfl (by decide +kernel) (fun v w h => h) (fun w => rfl)) ?_
    refine gSt (gStep_off 1 13 true rfl rfl (by decide +kernel) (fun v w h => h) (fun w => rfl)) ?_
    refine gSt (gStep_off 1 13 true rfl rfl (by decide +kernel) (fun v w h => h) (fun w => rfl)) ?_
    refine gSt (gStep_off 1 13 true rfl rfl (by decide +kernel) (fun v w h => h) (fun w => rfl)) ?_
    refine gSt (gStep_off 1 13 true rfl rfl (by decide +kernel) (fun v w h => h) (fun w => rfl)) ?_
    refine gSt (gStep_run rfl (gRun_pickF 13 20 _ _ rfl rfl (by decide +kernel) (fun v w h => h) (fun w => rfl))) ?_
    exact gSt0
  · intro W hC
    refine gFi 12 rfl ?_
    rintro _ rfl
    refine gFi 13 rfl ?_
    rintro _ rfl
    refine gFi 14 rfl ?_
    rintro _ rfl
    refine gFi 15 rfl ?_
    rintro _ rfl
    refine gFi 16 rfl ?_
    rintro _ rfl
    refine gFi 17 rfl ?_
    rintro _ rfl
    refine gFi 18 rfl ?_
    rintro _ rfl
    refine gFi 19 rfl ?_
    rintro _ rfl
    refine gFi 20 rfl ?_
    rintro _ rfl
    refine gFi0 ?_
    simp only [List.drop_succ_cons, List.drop_zero, Act.put, List.setIfInBounds_toArray, List.set_cons_succ, List.set_cons_zero]
    have HB := hide hC.s.bel
    clear hC h1
    go_wp2
    go_ret
    exact ⟨rfl, HB.out⟩

set_option maxHeartbeats 1000000 in
theorem fits_walk (f : Int) (B hi lo : Nat) (k : Nat → Int) (hk : k 0 = (B : Int)) (hh : hi < 18446744073709551616) (hl : lo < 18446744073709551616)
    (HO : Hid (∀ w, FmtG w → Calls Tryd.prog 47 #[.int .i64 f] w fun e w' => e = .returned (.tuple #[.agg #[.int .i64 (k 0), .int .i64 (k 1), .int .i64 (k 2), .int .i64 (k 3), .int .i64 (k 4)], .bool true]) ∧ Below w.heap.size w w')) (w : World) (hg : FmtG w) :
    Calls Tryd.prog 155 #[.int .i64 f, .agg #[.int .u64 (hi : Nat), .int .u64 (lo : Nat)]] w fun e w' => e = .returned (.bool (decide ((lo + 18446744073709551616 * hi) < 2 ^ B))) ∧ Below w.heap.size w w' := by
  have hQ := q200
  have HFR := hide (fun w => wideFrom_any hi lo hh hl w)
  have HLN := hide (fun w => wideLen_any (lo + 18446744073709551616 * hi) (by omega) w)
  have HK := hide hk
  have HST := hide (fitSt_start hi lo w)
  have HG := hide (hg.below (below_allocs w (.cells #[.int .u64 (hi : Nat), .int .u64 (lo : Nat)] 28)))
  clear hh hl hQ hk hg
  obtain ⟨a, ha⟩ : ∃ a, (lo + 18446744073709551616 * hi) = a := ⟨_, rfl⟩
  rw [ha] at HFR HLN ⊢
  clear ha
  have HR : Hid (decide ((Go.bitLen a : Int) ≤ (B : Int)) = decide (a < 2 ^ B)) := by
    unfold Hid
    rw [decide_eq_decide, ← len_le]
    omega
  go_enter Tryd.func155, Tryd.ntmps155
  go_wp2_with fail
  refine (HO.out _ HG.out).mono ?_
  rintro e w1 ⟨rfl, hb1⟩
  have HS2 := hide (fit2St_start hi lo k w w1 (HST.out.below hb1))
  clear HST hb1 HG
  go_upto_region 2 with fail
  refine wp_gen (fun W => Fit2St w1.heap.size hi lo w k W) HS2.out ?_
  clear HS2
  rintro W1 h1
  generalize w1.heap.size = p at *
  refine wp_region_grow 9 [(12, .val (.bool true)), (13, .val (.bool true)), (14, .val (.agg #[.int .u64 (hi : Nat), .int .u64 (lo : Nat)])), (15, .val (.agg #[.int .u64 (dgl (a) 0 : Nat), .int .u64 (dgl (a) 1 : Nat), .int .u64 (dgl (a) 2 : Nat), .int .u64 (dgl (a) 3 : Nat), .int .u64 (dgl (a) 4 : Nat), .int .u64 (dgl (a) 5 : Nat), .int .u64 (dgl (a) 6 : Nat), .int .u64 (dgl (a) 7 : Nat)])), (16, .val (.int .i64 (Go.bitLen a : Nat))), (17, .val (.pointer (some ⟨p, 0, none⟩))), (18, .val (.int .i64 (B : Nat))), (19, .val (.bool (decide ((Go.bitLen a : Int) ≤ (B : Int))))), (20, .val (.bool (decide ((Go.bitLen a : Int) ≤ (B : Int)))))]
    (fun W => Fit2St p hi lo w k W) mixedOk (by kernel_rfl) (by kernel_rfl) (h1.below (Below.refl _ _).drew) (fun W W' h hb => h.below hb) ?_ ?_
  · refine gSt (gStep_run rfl (gRun_move 6 12 (.inl rfl) rfl (by decide +kernel) (fun v w h => h))) ?_
    refine gSt (gStep_run rfl (gRun_move 12 13 (.inl rfl) rfl (by decide +kernel) (fun v w h => h))) ?_
    refine gSt (gStep_on 1 13 true rfl rfl (by decide +kernel) (fun v w h => h) ?_) ?_
    · intro ρ W hC hc hf hL
      have e3 : ρ (.tmp 3) = .pointer (some ⟨w.heap.size, 0, none⟩) := hL 3 (by decide +kernel)
      have l0 := hC.s.h
      have l1 := hC.s.l
      simp [go_sem, hc, hf, e3, l0, l1]
      exact ⟨Below.refl _ _, rfl⟩
    refine gSt (gStep_on 1 13 true rfl rfl (by decide +kernel) (fun v w h => h) ?_) ?_
    · intro ρ W hC hc hf hL
      have e14 : ρ (.tmp 14) = .agg #[.int .u64 (hi : Nat), .int .u64 (lo : Nat)] := hL 14 (by decide +kernel)
      simp [go_sem, hc, hf, e14]
      refine (HFR.out W).mono ?_
      rintro e w' ⟨rfl, hb⟩
      exact ⟨_, rfl, by first | exact hb | (subst hb; exact Below.refl _ _), rfl⟩
    refine gSt (gStep_on 1 13 true rfl rfl (by decide +kernel) (fun v w h => h) ?_) ?_
    · intro ρ W hC hc hf hL
      have e15 : ρ (.tmp 15) = .agg #[.int .u64 (dgl (a) 0 : Nat), .int .u64 (dgl (a) 1 : Nat), .int .u64 (dgl (a) 2 : Nat), .int .u64 (dgl (a) 3 : Nat), .int .u64 (dgl (a) 4 : Nat), .int .u64 (dgl (a) 5 : Nat), .int .u64 (dgl (a) 6 : Nat), .int .u64 (dgl (a) 7 : Nat)] := hL 15 (by decide +kernel)
      simp [go_sem, hc, hf, e15]
      refine (HLN.out W).mono ?_
      rintro e w' ⟨rfl, hb⟩
      exact ⟨_, rfl, by first | exact hb | (subst hb; exact Below.refl _ _), rfl⟩
    refine gSt (gStep_on 1 13 true rfl rfl (by decide +kernel) (fun v w h => h) ?_) ?_
    · intro ρ W hC hc hf hL
      have e5 : ρ (.tmp 5) = .pointer (some ⟨p, 0, none⟩) := hL 5 (by decide +kernel)
      simp [go_sem, hc, hf, e5]
      exact ⟨Below.refl _ _, rfl⟩
    refine gSt (gStep_on 1 13 true rfl rfl (by decide +kernel) (fun v w h => h) ?_) ?_
    · intro ρ W hC hc hf hL
      have e17 : ρ (.tmp 17) = .pointer (some ⟨p, 0, none⟩) := hL 17 (by decide +kernel)
      have l0 := hC.rk 0 (by decide)
      rw [HK.out] at l0
      simp [go_sem, hc, hf, e17, l0]
      exact ⟨Below.refl _ _, rfl⟩
    refine gSt (gStep_on 1 13 true rfl rfl (by decide +kernel) (fun v w h => h) ?_) ?_
    · intro ρ W hC hc hf hL
      have e16 : ρ (.tmp 16) = .int .i64 (Go.bitLen a : Nat) := hL 16 (by decide +kernel)
      have e18 : ρ (.tmp 18) = .int .i64 (B : Nat) := hL 18 (by decide +kernel)
      simp [go_sem, hc, hf, e16, e18]
      exact ⟨Below.refl _ _, rfl⟩
    refine gSt (gStep_run rfl (gRun_pickT 13 19 20 _ rfl rfl (by decide +kernel) (by decide +kernel) (fun v w h => h) (fun v w h => h))) ?_
    exact gSt0
  · intro W hC
    refine gFi 12 rfl ?_
    rintro _ rfl
    refine gFi 13 rfl ?_
    rintro _ rfl
    refine gFi 14 rfl ?_
    rintro _ rfl
    refine gFi 15 rfl ?_
    rintro _ rfl
    refine gFi 16 rfl ?_
    rintro _ rfl
    refine gFi 17 rfl ?_
    rintro _ rfl
    refine gFi 18 rfl ?_
    rintro _ rfl
    refine gFi 19 rfl ?_
    rintro _ rfl
    refine gFi 20 rfl ?_
    rintro _ rfl
    refine gFi0 ?_
    simp only [List.drop_succ_cons, List.drop_zero, Act.put, List.setIfInBounds_toArray, List.set_cons_succ, List.set_cons_zero]
    have HB := hide hC.s.bel
    clear hC h1
    go_wp2
    go_ret
    exact ⟨ret_bl HR.out, HB.out⟩

theorem fits_1 (hi lo : Nat) (hh : hi < 18446744073709551616) (hl : lo < 18446744073709551616) (w : World) (hg : FmtG w) : Calls Tryd.prog 155 #[.int .i64 1, .agg #[.int .u64 (hi : Nat), .int .u64 (lo : Nat)]] w fun e w' => e = .returned (.bool (decide ((lo + 18446744073709551616 * hi) < 2 ^ 16))) ∧ Below w.heap.size w w' :=
  fits_walk 1 16 hi lo (fun i => [16, 11, 15, -14, 5].getD i 0) rfl hh hl (fun w hg => of_1 w hg) w hg
theorem fits_2 (hi lo : Nat) (hh : hi < 18446744073709551616) (hl : lo < 18446744073709551616) (w : World) (hg : FmtG w) : Calls Tryd.prog 155 #[.int .i64 2, .agg #[.int .u64 (hi : Nat), .int .u64 (lo : Nat)]] w fun e w' => e = .returned (.bool (decide ((lo + 18446744073709551616 * hi) < 2 ^ 32))) ∧ Below w.heap.size w w' :=
  fits_walk 2 32 hi lo (fun i => [32, 24, 127, -126, 8].getD i 0) rfl hh hl (fun w hg => of_2 w hg) w hg
theorem fits_3 (hi lo : Nat) (hh : hi < 18446744073709551616) (hl : lo < 18446744073709551616) (w : World) (hg : FmtG w) : Calls Tryd.prog 155 #[.int .i64 3, .agg #[.int .u64 (hi : Nat), .int .u64 (lo : Nat)]] w fun e w' => e = .returned (.bool (decide ((lo + 18446744073709551616 * hi) < 2 ^ 64))) ∧ Below w.heap.size w w' :=
  fits_walk 3 64 hi lo (fun i => [64, 53, 1023, -1022, 11].getD i 0) rfl hh hl (fun w hg => of_3 w hg) w hg
theorem fits_4 (hi lo : Nat) (hh : hi < 18446744073709551616) (hl : lo < 18446744073709551616) (w : World) (hg : FmtG w) : Calls Tryd.prog 155 #[.int .i64 4, .agg #[.int .u64 (hi : Nat), .int .u64 (lo : Nat)]] w fun e w' => e = .returned (.bool (decide ((lo + 18446744073709551616 * hi) < 2 ^ 128))) ∧ Below w.heap.size w w' :=
  fits_walk 4 128 hi lo (fun i => [128, 113, 16383, -16382, 15].getD i 0) rfl hh hl (fun w hg => of_4 w hg) w hg

end Go.Proofs.YtpcjdllijkjdkaaDoor

/- Contracts: class.ones, taken. -/
set_option linter.unusedVariables false
set_option linter.unusedSimpArgs false
set_option maxRecDepth 8000
namespace Go.Proofs.YtpcjdllijkjdkaaDoor
open Go.RowKit Plain

theorem ones_1 (w : World) : Calls Tryd.prog 110 #[.agg #[.int .i64 16, .int .i64 11, .int .i64 15, .int .i64 (-14), .int .i64 5]] w fun e w' => e = .returned (.int .i64 ((31 : Nat) : Int)) ∧ Below w.heap.size w w' := by
  go_enter Tryd.func110, Tryd.ntmps110
  go_wp2
  go_ret
  exact ⟨rfl, below_allocs _ _⟩

theorem ones_2 (w : World) : Calls Tryd.prog 110 #[.agg #[.int .i64 32, .int .i64 24, .int .i64 127, .int .i64 (-126), .int .i64 8]] w fun e w' => e = .returned (.int .i64 ((255 : Nat) : Int)) ∧ Below w.heap.size w w' := by
  go_enter Tryd.func110, Tryd.ntmps110
  go_wp2
  go_ret
  exact ⟨rfl, below_allocs _ _⟩

theorem ones_3 (w : World) : Calls Tryd.prog 110 #[.agg #[.int .i64 64, .int .i64 53, .int .i64 1023, .int .i64 (-1022), .int .i64 11]] w fun e w' => e = .returned (.int .i64 ((2047 : Nat) : Int)) ∧ Below w.heap.size w w' := by
  go_enter Tryd.func110, Tryd.ntmps110
  go_wp2
  go_ret
  exact ⟨rfl, below_allocs _ _⟩

theorem ones_4 (w : World) : Calls Tryd.prog 110 #[.agg #[.int .i64 128, .int .i64 113, .int .i64 16383, .int .i64 (-16382), .int .i64 15]] w fun e w' => e = .returned (.int .i64 ((32767 : Nat) : Int)) ∧ Below w.heap.size w w' := by
  go_enter Tryd.func110, Tryd.ntmps110
  go_wp2
  go_ret
  exact ⟨rfl, below_allocs _ _⟩

/-- What taken goes by: the record, the word's number, the result. -/
structure TkSt (w : World) (k : Nat → Int) (a : Nat) (W : World) : Prop where
  rk : ∀ i, i < 5 → W.cell? ⟨w.heap.size, i, none⟩ = some (.int .i64 (k i))
  la : LiesF W (w.heap.size + 1) (dgl a)
  r0 : W.cell? ⟨w.heap.size + 1 + 1, 0, none⟩ = some (.bool false)
  r1 : W.cell? ⟨w.heap.size + 1 + 1, 1, none⟩ = some (.int .i64 0)
  r2 : ∀ i, i < 8 → W.cell? ⟨w.heap.size + 1 + 1, i + 2, none⟩ = some (.int .u64 0)
  rf : ∀ i, W.frozen? ⟨w.heap.size + 1 + 1, i, none⟩ = false
  lt : w.heap.size + 1 + 1 < W.heap.size
  bel : Below w.heap.size w W
theorem TkSt.under {w : World} {k : Nat → Int} {a : Nat} {W W' : World} (h : TkSt w k a W) {C : Nat} (hb : Below C W W') (hc : w.heap.size + 1 + 1 < C) : TkSt w k a W' :=
  ⟨fun i hi => (hb.cell (p := ⟨w.heap.size, i, none⟩) (show w.heap.size < C by omega)).trans (h.rk i hi), lies_box h.la hb (by omega), (hb.cell (p := ⟨w.heap.size + 1 + 1, 0, none⟩) hc).trans h.r0,
    (hb.cell (p := ⟨w.heap.size + 1 + 1, 1, none⟩) hc).trans h.r1, fun i hi => (hb.cell (p := ⟨w.heap.size + 1 + 1, i + 2, none⟩) hc).trans (h.r2 i hi), fun i => (hb.frozen (p := ⟨w.heap.size + 1 + 1, i, none⟩) hc).trans (h.rf i),
    Nat.lt_of_lt_of_le h.lt hb.size, h.bel.trans (hb.mono (by omega))⟩
theorem TkSt.below {w : World} {k : Nat → Int} {a : Nat} {W W' : World} (h : TkSt w k a W) (hb : Below W.heap.size W W') : TkSt w k a W' := h.under hb h.lt
theorem tkSt_start (w : World) (k : Nat → Int) (a : Nat) : TkSt w k a (((w.alloc (.cells #[.int .i64 (k 0), .int .i64 (k 1), .int .i64 (k 2), .int .i64 (k 3), .int .i64 (k 4)] 85)).alloc (.cells #[.int .u64 (dgl (a) 0 : Nat), .int .u64 (dgl (a) 1 : Nat), .int .u64 (dgl (a) 2 : Nat), .int .u64 (dgl (a) 3 : Nat), .int .u64 (dgl (a) 4 : Nat), .int .u64 (dgl (a) 5 : Nat), .int .u64 (dgl (a) 6 : Nat), .int .u64 (dgl (a) 7 : Nat)] 24)).alloc (.cells #[.bool false, .int .i64 0, .int .u64 0, .int .u64 0, .int .u64 0, .int .u64 0, .int .u64 0, .int .u64 0, .int .u64 0, .int .u64 0] 148)) := by
  have h1 := below_allocs (w.alloc (.cells #[.int .i64 (k 0), .int .i64 (k 1), .int .i64 (k 2), .int .i64 (k 3), .int .i64 (k 4)] 85)) (.cells #[.int .u64 (dgl (a) 0 : Nat), .int .u64 (dgl (a) 1 : Nat), .int .u64 (dgl (a) 2 : Nat), .int .u64 (dgl (a) 3 : Nat), .int .u64 (dgl (a) 4 : Nat), .int .u64 (dgl (a) 5 : Nat), .int .u64 (dgl (a) 6 : Nat), .int .u64 (dgl (a) 7 : Nat)] 24)
  have h2 := below_allocs ((w.alloc (.cells #[.int .i64 (k 0), .int .i64 (k 1), .int .i64 (k 2), .int .i64 (k 3), .int .i64 (k 4)] 85)).alloc (.cells #[.int .u64 (dgl (a) 0 : Nat), .int .u64 (dgl (a) 1 : Nat), .int .u64 (dgl (a) 2 : Nat), .int .u64 (dgl (a) 3 : Nat), .int .u64 (dgl (a) 4 : Nat), .int .u64 (dgl (a) 5 : Nat), .int .u64 (dgl (a) 6 : Nat), .int .u64 (dgl (a) 7 : Nat)] 24)) (.cells #[.bool false, .int .i64 0, .int .u64 0, .int .u64 0, .int .u64 0, .int .u64 0, .int .u64 0, .int .u64 0, .int .u64 0, .int .u64 0] 148)
  have hl := (liesF_new (w.alloc (.cells #[.int .i64 (k 0), .int .i64 (k 1), .int .i64 (k 2), .int .i64 (k 3), .int .i64 (k 4)] 85)) (dgl a) 24).alloc (.cells #[.bool false, .int .i64 0, .int .u64 0, .int .u64 0, .int .u64 0, .int .u64 0, .int .u64 0, .int .u64 0, .int .u64 0, .int .u64 0] 148)
  have h3 := below_trans h1 h2
  rw [World.size_alloc] at hl h3
  refine ⟨fun i hi => (h3.cell (p := ⟨w.heap.size, i, none⟩) (show w.heap.size < w.heap.size + 1 by omega)).trans (rec5_new w k _ i hi), hl, by simp [go_sem], by simp [go_sem], fun i hi => ?_, fun i => by simp [go_sem], by simp, below_trans (below_allocs _ _) (below_trans (below_allocs _ _) (below_allocs _ _))⟩
  match i, hi with
  | 0, _ | 1, _ | 2, _ | 3, _ | 4, _ | 5, _ | 6, _ | 7, _ => simp [go_sem]

set_option maxHeartbeats 2000000 in
theorem taken_walk (k : Nat → Int) (a u v r m fd : Nat) (ng rs bo : Bool) (hw0 : IntKind.i64.wrap (k 0 - 1) = k 0 - 1) (hw1 : IntKind.i64.wrap (k 1 - 1) = k 1 - 1) (hfd : bits .and .i64 (IntKind.i64.wrap (dgl u 0 : Nat)) ((m : Nat) : Int) = ((fd : Nat) : Int))
    (HSR : Hid (∀ w, Calls Tryd.prog 108 #[.agg #[.int .u64 (dgl (a) 0 : Nat), .int .u64 (dgl (a) 1 : Nat), .int .u64 (dgl (a) 2 : Nat), .int .u64 (dgl (a) 3 : Nat), .int .u64 (dgl (a) 4 : Nat), .int .u64 (dgl (a) 5 : Nat), .int .u64 (dgl (a) 6 : Nat), .int .u64 (dgl (a) 7 : Nat)], .int .i64 (k 1 - 1)] w fun e w' => e = .returned (.tuple #[.agg #[.int .u64 (dgl (u) 0 : Nat), .int .u64 (dgl (u) 1 : Nat), .int .u64 (dgl (u) 2 : Nat), .int .u64 (dgl (u) 3 : Nat), .int .u64 (dgl (u) 4 : Nat), .int .u64 (dgl (u) 5 : Nat), .int .u64 (dgl (u) 6 : Nat), .int .u64 (dgl (u) 7 : Nat)], .bool rs]) ∧ Below w.heap.size w w'))
    (HSL : Hid (∀ w, Calls Tryd.prog 107 #[.agg #[.int .u64 (dgl (u) 0 : Nat), .int .u64 (dgl (u) 1 : Nat), .int .u64 (dgl (u) 2 : Nat), .int .u64 (dgl (u) 3 : Nat), .int .u64 (dgl (u) 4 : Nat), .int .u64 (dgl (u) 5 : Nat), .int .u64 (dgl (u) 6 : Nat), .int .u64 (dgl (u) 7 : Nat)], .int .i64 (k 1 - 1)] w fun e w' => e = .returned (.agg #[.int .u64 (dgl (v) 0 : Nat), .int .u64 (dgl (v) 1 : Nat), .int .u64 (dgl (v) 2 : Nat), .int .u64 (dgl (v) 3 : Nat), .int .u64 (dgl (v) 4 : Nat), .int .u64 (dgl (v) 5 : Nat), .int .u64 (dgl (v) 6 : Nat), .int .u64 (dgl (v) 7 : Nat)]) ∧ Below w.heap.size w w'))
    (HSU : Hid (∀ w, Calls Tryd.prog 54 #[.agg #[.int .u64 (dgl (a) 0 : Nat), .int .u64 (dgl (a) 1 : Nat), .int .u64 (dgl (a) 2 : Nat), .int .u64 (dgl (a) 3 : Nat), .int .u64 (dgl (a) 4 : Nat), .int .u64 (dgl (a) 5 : Nat), .int .u64 (dgl (a) 6 : Nat), .int .u64 (dgl (a) 7 : Nat)], .agg #[.int .u64 (dgl (v) 0 : Nat), .int .u64 (dgl (v) 1 : Nat), .int .u64 (dgl (v) 2 : Nat), .int .u64 (dgl (v) 3 : Nat), .int .u64 (dgl (v) 4 : Nat), .int .u64 (dgl (v) 5 : Nat), .int .u64 (dgl (v) 6 : Nat), .int .u64 (dgl (v) 7 : Nat)]] w fun e w' => e = .returned (.tuple #[.agg #[.int .u64 (dgl (r) 0 : Nat), .int .u64 (dgl (r) 1 : Nat), .int .u64 (dgl (r) 2 : Nat), .int .u64 (dgl (r) 3 : Nat), .int .u64 (dgl (r) 4 : Nat), .int .u64 (dgl (r) 5 : Nat), .int .u64 (dgl (r) 6 : Nat), .int .u64 (dgl (r) 7 : Nat)], .bool bo]) ∧ Below w.heap.size w w'))
    (HBI : Hid (∀ w, Calls Tryd.prog 133 #[.agg #[.int .u64 (dgl (a) 0 : Nat), .int .u64 (dgl (a) 1 : Nat), .int .u64 (dgl (a) 2 : Nat), .int .u64 (dgl (a) 3 : Nat), .int .u64 (dgl (a) 4 : Nat), .int .u64 (dgl (a) 5 : Nat), .int .u64 (dgl (a) 6 : Nat), .int .u64 (dgl (a) 7 : Nat)], .int .i64 (k 0 - 1)] w fun e w' => e = .returned (.bool ng) ∧ Below w.heap.size w w'))
    (HON : Hid (∀ w, Calls Tryd.prog 110 #[.agg #[.int .i64 (k 0), .int .i64 (k 1), .int .i64 (k 2), .int .i64 (k 3), .int .i64 (k 4)]] w fun e w' => e = .returned (.int .i64 ((m : Nat) : Int)) ∧ Below w.heap.size w w')) (w : World) :
    Calls Tryd.prog 156 #[.agg #[.int .i64 (k 0), .int .i64 (k 1), .int .i64 (k 2), .int .i64 (k 3), .int .i64 (k 4)], .agg #[.int .u64 (dgl (a) 0 : Nat), .int .u64 (dgl (a) 1 : Nat), .int .u64 (dgl (a) 2 : Nat), .int .u64 (dgl (a) 3 : Nat), .int .u64 (dgl (a) 4 : Nat), .int .u64 (dgl (a) 5 : Nat), .int .u64 (dgl (a) 6 : Nat), .int .u64 (dgl (a) 7 : Nat)]] w fun e w' => e = .returned (.agg #[.bool ng, .int .i64 ((fd : Nat)), .int .u64 (dgl r 0 : Nat), .int .u64 (dgl r 1 : Nat), .int .u64 (dgl r 2 : Nat), .int .u64 (dgl r 3 : Nat), .int .u64 (dgl r 4 : Nat), .int .u64 (dgl r 5 : Nat), .int .u64 (dgl r 6 : Nat), .int .u64 (dgl r 7 : Nat)]) ∧ Below w.heap.size w w' := by
  have HST := hide (tkSt_start w k a)
  go_enter Tryd.func156, Tryd.ntmps156
  go_wp2_with fail
  refine (HSR.out _).mono ?_
  rintro e w1 ⟨rfl, hb1⟩
  replace HST := hide (HST.out.below hb1)
  clear hb1
  go_upto_region 2 with fail
  refine wp_gen (fun W => TkSt w k a W ∧ LiesF W w1.heap.size (dgl u)) ⟨HST.out.below (below_allocs _ _), liesF_new _ _ _⟩ ?_
  rintro W1 h1
  have HN := hide HST.out.lt
  clear HST
  generalize w1.heap.size = p5 at *
  refine wp_region_storeK 12 [11] [18, 19, 20, 21, 22, 23, 24, 17, 25, 26, 7] (fun bs => [(18, .val (.agg #[.int .u64 (dgl (a) 0 : Nat), .int .u64 (dgl (a) 1 : Nat), .int .u64 (dgl (a) 2 : Nat), .int .u64 (dgl (a) 3 : Nat), .int .u64 (dgl (a) 4 : Nat), .int .u64 (dgl (a) 5 : Nat), .int .u64 (dgl (a) 6 : Nat), .int .u64 (dgl (a) 7 : Nat)])), (19, .val (.agg #[.int .u64 (dgl (u) 0 : Nat), .int .u64 (dgl (u) 1 : Nat), .int .u64 (dgl (u) 2 : Nat), .int .u64 (dgl (u) 3 : Nat), .int .u64 (dgl (u) 4 : Nat), .int .u64 (dgl (u) 5 : Nat), .int .u64 (dgl (u) 6 : Nat), .int .u64 (dgl (u) 7 : Nat)])), (20, .val (.pointer (some ⟨w.heap.size, 1, none⟩))), (21, .val (.int .i64 (k 1))), (22, .val (.int .i64 (k 1 - 1))), (23, .val (.agg #[.int .u64 (dgl (v) 0 : Nat), .int .u64 (dgl (v) 1 : Nat), .int .u64 (dgl (v) 2 : Nat), .int .u64 (dgl (v) 3 : Nat), .int .u64 (dgl (v) 4 : Nat), .int .u64 (dgl (v) 5 : Nat), .int .u64 (dgl (v) 6 : Nat), .int .u64 (dgl (v) 7 : Nat)])), (24, .val (.tuple #[.agg #[.int .u64 (dgl (r) 0 : Nat), .int .u64 (dgl (r) 1 : Nat), .int .u64 (dgl (r) 2 : Nat), .int .u64 (dgl (r) 3 : Nat), .int .u64 (dgl (r) 4 : Nat), .int .u64 (dgl (r) 5 : Nat), .int .u64 (dgl (r) 6 : Nat), .int .u64 (dgl (r) 7 : Nat)], .bool bo])), (17, .val (.tuple #[.agg #[.int .u64 (dgl (r) 0 : Nat), .int .u64 (dgl (r) 1 : Nat), .int .u64 (dgl (r) 2 : Nat), .int .u64 (dgl (r) 3 : Nat), .int .u64 (dgl (r) 4 : Nat), .int .u64 (dgl (r) 5 : Nat), .int .u64 (dgl (r) 6 : Nat), .int .u64 (dgl (r) 7 : Nat)], .bool bo])), (25, .val (.agg #[.int .u64 (dgl (r) 0 : Nat), .int .u64 (dgl (r) 1 : Nat), .int .u64 (dgl (r) 2 : Nat), .int .u64 (dgl (r) 3 : Nat), .int .u64 (dgl (r) 4 : Nat), .int .u64 (dgl (r) 5 : Nat), .int .u64 (dgl (r) 6 : Nat), .int .u64 (dgl (r) 7 : Nat)])), (26, .val (.bool bo)), (7, bif bs.headD false then SlotIs.box (p5 + 1) (dgl r) else SlotIs.box (p5 + 1) (fun _ => 0))])
    (fun _ W => TkSt w k a W ∧ LiesF W p5 (dgl u)) (fun bs => rfl) mixedOk (by kernel_rfl) (by kernel_rfl) (by kernel_rfl) (⟨h1.1.below (Below.refl _ _).drew, h1.2.below (Below.refl _ _).drew⟩) (fun bs W W' h hb => ⟨h.1.below hb, h.2.below hb⟩) ?_ ?_
  · refine kSt rfl (fun φ hφ => gStep_run rfl ?_) ?_
    · intro ρ W hC hc hf hL
      have e3 : ρ (.tmp 3) = .pointer (some ⟨w.heap.size + 1, 0, none⟩) := hL 3 (by decide +kernel)
      have hl := hC.1.la.1
      simp [go_sem, hc, hf, e3, hl]
      exact ⟨Below.refl _ _, rfl⟩
    refine kSt rfl (fun φ hφ => gStep_run rfl ?_) ?_
    · intro ρ W hC hc hf hL
      have e5 : ρ (.tmp 5) = .pointer (some ⟨p5, 0, none⟩) := hL 5 (by decide +kernel)
      have hl := hC.2.1
      simp [go_sem, hc, hf, e5, hl]
      exact ⟨Below.refl _ _, rfl⟩
    refine kSt rfl (fun φ hφ => gStep_run rfl ?_) ?_
    · intro ρ W hC hc hf hL
      have e2 : ρ (.tmp 2) = .pointer (some ⟨w.heap.size, 0, none⟩) := hL 2 (by decide +kernel)
      simp [go_sem, hc, hf, e2]
      exact ⟨Below.refl _ _, rfl⟩
    refine kSt rfl (fun φ hφ => gStep_run rfl ?_) ?_
    · intro ρ W hC hc hf hL
      have e20 : ρ (.tmp 20) = .pointer (some ⟨w.heap.size, 1, none⟩) := hL 20 (by decide +kernel)
      have hl := hC.1.rk 1 (by decide)
      simp [go_sem, hc, hf, e20, hl]
      exact ⟨Below.refl _ _, rfl⟩
    refine kSt rfl (fun φ hφ => gStep_run rfl ?_) ?_
    · intro ρ W hC hc hf hL
      have e21 : ρ (.tmp 21) = .int .i64 (k 1) := hL 21 (by decide +kernel)
      simp [go_sem, hc, hf, e21, hw1]
      exact ⟨Below.refl _ _, rfl⟩
    refine kSt rfl (fun φ hφ => gStep_run rfl ?_) ?_
    · intro ρ W hC hc hf hL
      have e19 : ρ (.tmp 19) = .agg #[.int .u64 (dgl (u) 0 : Nat), .int .u64 (dgl (u) 1 : Nat), .int .u64 (dgl (u) 2 : Nat), .int .u64 (dgl (u) 3 : Nat), .int .u64 (dgl (u) 4 : Nat), .int .u64 (dgl (u) 5 : Nat), .int .u64 (dgl (u) 6 : Nat), .int .u64 (dgl (u) 7 : Nat)] := hL 19 (by decide +kernel)
      have e22 : ρ (.tmp 22) = .int .i64 (k 1 - 1) := hL 22 (by decide +kernel)
      simp [go_sem, hc, hf, e19, e22]
      refine (HSL.out W).mono ?_
      rintro e w' ⟨rfl, hb⟩
      exact ⟨_, rfl, by first | exact hb | (subst hb; exact Below.refl _ _), rfl⟩
    refine kSt rfl (fun φ hφ => gStep_run rfl ?_) ?_
    · intro ρ W hC hc hf hL
      have e18 : ρ (.tmp 18) = .agg #[.int .u64 (dgl (a) 0 : Nat), .int .u64 (dgl (a) 1 : Nat), .int .u64 (dgl (a) 2 : Nat), .int .u64 (dgl (a) 3 : Nat), .int .u64 (dgl (a) 4 : Nat), .int .u64 (dgl (a) 5 : Nat), .int .u64 (dgl (a) 6 : Nat), .int .u64 (dgl (a) 7 : Nat)] := hL 18 (by decide +kernel)
      have e23 : ρ (.tmp 23) = .agg #[.int .u64 (dgl (v) 0 : Nat), .int .u64 (dgl (v) 1 : Nat), .int .u64 (dgl (v) 2 : Nat), .int .u64 (dgl (v) 3 : Nat), .int .u64 (dgl (v) 4 : Nat), .int .u64 (dgl (v) 5 : Nat), .int .u64 (dgl (v) 6 : Nat), .int .u64 (dgl (v) 7 : Nat)] := hL 23 (by decide +kernel)
      simp [go_sem, hc, hf, e18, e23]
      refine (HSU.out W).mono ?_
      rintro e w' ⟨rfl, hb⟩
      exact ⟨_, rfl, by first | exact hb | (subst hb; exact Below.refl _ _), rfl⟩
    refine kSt rfl (fun φ hφ => gStep_run rfl (gRun_move 24 17 (.inl rfl) rfl (by decide +kernel) (fun v w h => h))) ?_
    refine kSt rfl (fun φ hφ => gStep_run rfl ?_) ?_
    · intro ρ W hC hc hf hL
      have e17 : ρ (.tmp 17) = .tuple #[.agg #[.int .u64 (dgl (r) 0 : Nat), .int .u64 (dgl (r) 1 : Nat), .int .u64 (dgl (r) 2 : Nat), .int .u64 (dgl (r) 3 : Nat), .int .u64 (dgl (r) 4 : Nat), .int .u64 (dgl (r) 5 : Nat), .int .u64 (dgl (r) 6 : Nat), .int .u64 (dgl (r) 7 : Nat)], .bool bo] := hL 17 (by decide +kernel)
      simp [go_sem, hc, hf, e17]
      exact ⟨Below.refl _ _, rfl⟩
    refine kSt rfl (fun φ hφ => gStep_run rfl ?_) ?_
    · intro ρ W hC hc hf hL
      have e17 : ρ (.tmp 17) = .tuple #[.agg #[.int .u64 (dgl (r) 0 : Nat), .int .u64 (dgl (r) 1 : Nat), .int .u64 (dgl (r) 2 : Nat), .int .u64 (dgl (r) 3 : Nat), .int .u64 (dgl (r) 4 : Nat), .int .u64 (dgl (r) 5 : Nat), .int .u64 (dgl (r) 6 : Nat), .int .u64 (dgl (r) 7 : Nat)], .bool bo] := hL 17 (by decide +kernel)
      simp [go_sem, hc, hf, e17]
      exact ⟨Below.refl _ _, rfl⟩
    refine kSt rfl (fun φ hφ => gStep_run rfl ?_) ?_
    · intro ρ W hC hc hf hL
      have hφ0 : φ 11 = false := hφ 11 (by simp) (by kernel_rfl)
      simp [go_sem, hc, hf]
      refine ⟨below_allocs _ _, ?_⟩
      show (bif φ 11 then SlotIs.box (p5 + 1) (dgl r) else SlotIs.box (p5 + 1) (fun _ => 0)).R _ _
      rw [hφ0]
      exact ⟨_, rfl, hC.2.2, liesF_new _ (fun _ => 0) _, fun i => by simp [go_sem]⟩
    refine kStS rfl ⟨rfl, rfl, ?_⟩ ?_
    · intro φ ρ W hφ hC hc hL
      have b7 := hL 7 (by decide +kernel)
      have e25 : ρ (.tmp 25) = .agg #[.int .u64 (dgl (r) 0 : Nat), .int .u64 (dgl (r) 1 : Nat), .int .u64 (dgl (r) 2 : Nat), .int .u64 (dgl (r) 3 : Nat), .int .u64 (dgl (r) 4 : Nat), .int .u64 (dgl (r) 5 : Nat), .int .u64 (dgl (r) 6 : Nat), .int .u64 (dgl (r) 7 : Nat)] := hL 25 (by decide +kernel)
      have b7 : (bif φ 11 then SlotIs.box (p5 + 1) (dgl r) else SlotIs.box (p5 + 1) (fun _ => 0)).R (ρ (.tmp 7)) W := hL 7 (by decide +kernel)
      rw [hφ] at b7
      obtain ⟨p7, e7, q7, l7, z7⟩ := b7
      have hz := l7.1
      have hzl := l7.2
      refine gUpon_of ((((((((W.setCell ⟨p7, 0, none⟩ (.int .u64 (dgl r 0 : Nat))).setCell ⟨p7, 1, none⟩ (.int .u64 (dgl r 1 : Nat))).setCell ⟨p7, 2, none⟩ (.int .u64 (dgl r 2 : Nat))).setCell ⟨p7, 3, none⟩ (.int .u64 (dgl r 3 : Nat))).setCell ⟨p7, 4, none⟩ (.int .u64 (dgl r 4 : Nat))).setCell ⟨p7, 5, none⟩ (.int .u64 (dgl r 5 : Nat))).setCell ⟨p7, 6, none⟩ (.int .u64 (dgl r 6 : Nat))).setCell ⟨p7, 7, none⟩ (.int .u64 (dgl r 7 : Nat))) ?_ (fun _ => ?_)
      · simp [go_sem, hc, e25, e7, hz, hzl, z7, gUpon]
      have hs8 := below_set8 (Below.refl (p5 + 1) W) p7 q7 (.int .u64 (dgl r 0 : Nat)) (.int .u64 (dgl r 1 : Nat)) (.int .u64 (dgl r 2 : Nat)) (.int .u64 (dgl r 3 : Nat)) (.int .u64 (dgl r 4 : Nat)) (.int .u64 (dgl r 5 : Nat)) (.int .u64 (dgl r 6 : Nat)) (.int .u64 (dgl r 7 : Nat))
      have hN := HN.out
      refine ⟨⟨hC.1.under hs8 (by omega), lies_box hC.2 hs8 (by omega)⟩, fun t => ?_⟩
      refine (tbl_imp rfl (fun _ => val_imp) (tbl_imp rfl (fun _ => val_imp) (tbl_imp rfl (fun _ => val_imp) (tbl_imp rfl (fun _ => val_imp) (tbl_imp rfl (fun _ => val_imp) (tbl_imp rfl (fun _ => val_imp) (tbl_imp rfl (fun _ => val_imp) (tbl_imp rfl (fun _ => val_imp) (tbl_imp rfl (fun _ => val_imp) (tbl_imp rfl (fun _ => val_imp) (tbl_imp rfl (fun ht h => ?_) tbl_nil_imp)))))))))))
      subst ht
      show (bif (φ 11 || true) then SlotIs.box (p5 + 1) (dgl r) else SlotIs.box (p5 + 1) (fun _ => 0)).R _ _
      rw [Bool.or_true]
      exact ⟨p7, e7, q7, set8_same W p7 (dgl r) (fun _ => 0) l7, fun i => by simpa [go_sem] using z7 i⟩
    exact kSt0
  · intro W hC
    refine gFi 18 rfl ?_
    rintro _ rfl
    refine gFi 19 rfl ?_
    rintro _ rfl
    refine gFi 20 rfl ?_
    rintro _ rfl
    refine gFi 21 rfl ?_
    rintro _ rfl
    refine gFi 22 rfl ?_
    rintro _ rfl
    refine gFi 23 rfl ?_
    rintro _ rfl
    refine gFi 24 rfl ?_
    rintro _ rfl
    refine gFi 17 rfl ?_
    rintro _ rfl
    refine gFi 25 rfl ?_
    rintro _ rfl
    refine gFi 26 rfl ?_
    rintro _ rfl
    refine gFi 7 rfl ?_
    rintro _ ⟨p7, rfl, q7, l7, z7⟩
    refine gFiN rfl ?_
    refine gFi0 ?_
    simp only [List.drop_succ_cons, List.drop_zero, Act.put, List.setIfInBounds_toArray, List.set_cons_succ, List.set_cons_zero]
    have HC := hide hC
    have HL := hide l7
    clear hC h1 l7
    go_upto_region 3 with fail
    refine wp_gen (fun W => TkSt w k a W ∧ LiesF W p5 (dgl u) ∧ LiesF W p7 (dgl r)) ⟨HC.out.1, HC.out.2, HL.out⟩ ?_
    clear HC HL z7
    rintro W2 h2
    refine wp_region_grow 13 [(27, .val (.agg #[.int .u64 (dgl (a) 0 : Nat), .int .u64 (dgl (a) 1 : Nat), .int .u64 (dgl (a) 2 : Nat), .int .u64 (dgl (a) 3 : Nat), .int .u64 (dgl (a) 4 : Nat), .int .u64 (dgl (a) 5 : Nat), .int .u64 (dgl (a) 6 : Nat), .int .u64 (dgl (a) 7 : Nat)])), (28, .val (.pointer (some ⟨w.heap.size, 0, none⟩))), (29, .val (.int .i64 (k 0))), (30, .val (.int .i64 (k 0 - 1))), (31, .val (.bool ng)), (32, .val (.pointer (some ⟨p5, 0, none⟩))), (33, .val (.int .u64 (dgl u 0 : Nat))), (34, .val (.int .i64 (IntKind.i64.wrap (dgl u 0 : Nat)))), (35, .val (.agg #[.int .i64 (k 0), .int .i64 (k 1), .int .i64 (k 2), .int .i64 (k 3), .int .i64 (k 4)])), (36, .val (.int .i64 ((m : Nat) : Int))), (37, .val (.int .i64 ((fd : Nat) : Int))), (38, .val (.agg #[.int .u64 (dgl (r) 0 : Nat), .int .u64 (dgl (r) 1 : Nat), .int .u64 (dgl (r) 2 : Nat), .int .u64 (dgl (r) 3 : Nat), .int .u64 (dgl (r) 4 : Nat), .int .u64 (dgl (r) 5 : Nat), .int .u64 (dgl (r) 6 : Nat), .int .u64 (dgl (r) 7 : Nat)])), (39, .val (.agg #[.bool ng, .int .i64 ((fd : Nat)), .int .u64 (dgl r 0 : Nat), .int .u64 (dgl r 1 : Nat), .int .u64 (dgl r 2 : Nat), .int .u64 (dgl r 3 : Nat), .int .u64 (dgl r 4 : Nat), .int .u64 (dgl r 5 : Nat), .int .u64 (dgl r 6 : Nat), .int .u64 (dgl r 7 : Nat)]))]
      (fun W => TkSt w k a W ∧ LiesF W p5 (dgl u) ∧ LiesF W p7 (dgl r)) mixedOk (by kernel_rfl) (by kernel_rfl) (⟨h2.1.below (Below.refl _ _).drew, h2.2.1.below (Below.refl _ _).drew, h2.2.2.below (Below.refl _ _).drew⟩) (fun W W' h hb => ⟨h.1.below hb, h.2.1.below hb, h.2.2.below hb⟩) ?_ ?_
    · refine gSt (gStep_run rfl ?_) ?_
      · intro ρ W hC hc hf hL
        have e3 : ρ (.tmp 3) = .pointer (some ⟨w.heap.size + 1, 0, none⟩) := hL 3 (by decide +kernel)
        have hl := hC.1.la.1
        simp [go_sem, hc, hf, e3, hl]
        exact ⟨Below.refl _ _, rfl⟩
      refine gSt (gStep_run rfl ?_) ?_
      · intro ρ W hC hc hf hL
        have e2 : ρ (.tmp 2) = .pointer (some ⟨w.heap.size, 0, none⟩) := hL 2 (by decide +kernel)
        simp [go_sem, hc, hf, e2]
        exact ⟨Below.refl _ _, rfl⟩
      refine gSt (gStep_run rfl ?_) ?_
      · intro ρ W hC hc hf hL
        have e28 : ρ (.tmp 28) = .pointer (some ⟨w.heap.size, 0, none⟩) := hL 28 (by decide +kernel)
        have hl := hC.1.rk 0 (by decide)
        simp [go_sem, hc, hf, e28, hl]
        exact ⟨Below.refl _ _, rfl⟩
      refine gSt (gStep_run rfl ?_) ?_
      · intro ρ W hC hc hf hL
        have e29 : ρ (.tmp 29) = .int .i64 (k 0) := hL 29 (by decide +kernel)
        simp [go_sem, hc, hf, e29, hw0]
        exact ⟨Below.refl _ _, rfl⟩
      refine gSt (gStep_run rfl ?_) ?_
      · intro ρ W hC hc hf hL
        have e27 : ρ (.tmp 27) = .agg #[.int .u64 (dgl (a) 0 : Nat), .int .u64 (dgl (a) 1 : Nat), .int .u64 (dgl (a) 2 : Nat), .int .u64 (dgl (a) 3 : Nat), .int .u64 (dgl (a) 4 : Nat), .int .u64 (dgl (a) 5 : Nat), .int .u64 (dgl (a) 6 : Nat), .int .u64 (dgl (a) 7 : Nat)] := hL 27 (by decide +kernel)
        have e30 : ρ (.tmp 30) = .int .i64 (k 0 - 1) := hL 30 (by decide +kernel)
        simp [go_sem, hc, hf, e27, e30]
        refine (HBI.out W).mono ?_
        rintro e w' ⟨rfl, hb⟩
        exact ⟨_, rfl, by first | exact hb | (subst hb; exact Below.refl _ _), rfl⟩
      refine gSt (gStep_run rfl ?_) ?_
      · intro ρ W hC hc hf hL
        have e5 : ρ (.tmp 5) = .pointer (some ⟨p5, 0, none⟩) := hL 5 (by decide +kernel)
        simp [go_sem, hc, hf, e5]
        exact ⟨Below.refl _ _, rfl⟩
      refine gSt (gStep_run rfl ?_) ?_
      · intro ρ W hC hc hf hL
        have e32 : ρ (.tmp 32) = .pointer (some ⟨p5, 0, none⟩) := hL 32 (by decide +kernel)
        have hl := hC.2.1.1 0 (by decide)
        simp [go_sem, hc, hf, e32, hl]
        exact ⟨Below.refl _ _, rfl⟩
      refine gSt (gStep_run rfl ?_) ?_
      · intro ρ W hC hc hf hL
        have e33 : ρ (.tmp 33) = .int .u64 (dgl u 0 : Nat) := hL 33 (by decide +kernel)
        simp [go_sem, hc, hf, e33]
        exact ⟨Below.refl _ _, rfl⟩
      refine gSt (gStep_run rfl ?_) ?_
      · intro ρ W hC hc hf hL
        have e2 : ρ (.tmp 2) = .pointer (some ⟨w.heap.size, 0, none⟩) := hL 2 (by decide +kernel)
        have g0 := hC.1.rk 0 (by decide)
        have g1 := hC.1.rk 1 (by decide)
        have g2 := hC.1.rk 2 (by decide)
        have g3 := hC.1.rk 3 (by decide)
        have g4 := hC.1.rk 4 (by decide)
        simp [go_sem, hc, hf, e2, g0, g1, g2, g3, g4]
        exact ⟨Below.refl _ _, rfl⟩
      refine gSt (gStep_run rfl ?_) ?_
      · intro ρ W hC hc hf hL
        have e35 : ρ (.tmp 35) = .agg #[.int .i64 (k 0), .int .i64 (k 1), .int .i64 (k 2), .int .i64 (k 3), .int .i64 (k 4)] := hL 35 (by decide +kernel)
        simp [go_sem, hc, hf, e35]
        refine (HON.out W).mono ?_
        rintro e w' ⟨rfl, hb⟩
        exact ⟨_, rfl, by first | exact hb | (subst hb; exact Below.refl _ _), rfl⟩
      refine gSt (gStep_run rfl ?_) ?_
      · intro ρ W hC hc hf hL
        have e34 : ρ (.tmp 34) = .int .i64 (IntKind.i64.wrap (dgl u 0 : Nat)) := hL 34 (by decide +kernel)
        have e36 : ρ (.tmp 36) = .int .i64 ((m : Nat) : Int) := hL 36 (by decide +kernel)
        simp [go_sem, hc, hf, e34, e36, hfd]
        exact ⟨Below.refl _ _, rfl⟩
      refine gSt (gStep_run rfl ?_) ?_
      · intro ρ W hC hc hf hL
        have e7 : ρ (.tmp 7) = .pointer (some ⟨p7, 0, none⟩) := hL 7 (by decide +kernel)
        have hl := hC.2.2.1
        simp [go_sem, hc, hf, e7, hl]
        exact ⟨Below.refl _ _, rfl⟩
      refine gSt (gStep_run rfl ?_) ?_
      · intro ρ W hC hc hf hL
        have e31 : ρ (.tmp 31) = .bool ng := hL 31 (by decide +kernel)
        have e37 : ρ (.tmp 37) = .int .i64 ((fd : Nat) : Int) := hL 37 (by decide +kernel)
        have e38 : ρ (.tmp 38) = .agg #[.int .u64 (dgl (r) 0 : Nat), .int .u64 (dgl (r) 1 : Nat), .int .u64 (dgl (r) 2 : Nat), .int .u64 (dgl (r) 3 : Nat), .int .u64 (dgl (r) 4 : Nat), .int .u64 (dgl (r) 5 : Nat), .int .u64 (dgl (r) 6 : Nat), .int .u64 (dgl (r) 7 : Nat)] := hL 38 (by decide +kernel)
        simp [go_sem, hc, hf, e31, e37, e38]
        exact ⟨Below.refl _ _, rfl⟩
      exact gSt0
    · intro W hC
      refine gFi 27 rfl ?_
      rintro _ rfl
      refine gFi 28 rfl ?_
      rintro _ rfl
      refine gFi 29 rfl ?_
      rintro _ rfl
      refine gFi 30 rfl ?_
      rintro _ rfl
      refine gFi 31 rfl ?_
      rintro _ rfl
      refine gFi 32 rfl ?_
      rintro _ rfl
      refine gFi 33 rfl ?_
      rintro _ rfl
      refine gFi 34 rfl ?_
      rintro _ rfl
      refine gFi 35 rfl ?_
      rintro _ rfl
      refine gFi 36 rfl ?_
      rintro _ rfl
      refine gFi 37 rfl ?_
      rintro _ rfl
      refine gFi 38 rfl ?_
      rintro _ rfl
      refine gFi 39 rfl ?_
      rintro _ rfl
      refine gFi0 ?_
      simp only [List.drop_succ_cons, List.drop_zero, Act.put, List.setIfInBounds_toArray, List.set_cons_succ, List.set_cons_zero]
      have r0 := hC.1.r0
      have r1 := hC.1.r1
      have q0 := hC.1.r2 0 (by decide)
      have q1 := hC.1.r2 1 (by decide)
      have q2 := hC.1.r2 2 (by decide)
      have q3 := hC.1.r2 3 (by decide)
      have q4 := hC.1.r2 4 (by decide)
      have q5 := hC.1.r2 5 (by decide)
      have q6 := hC.1.r2 6 (by decide)
      have q7 := hC.1.r2 7 (by decide)
      simp only [Nat.reduceAdd] at q0 q1 q2 q3 q4 q5 q6 q7
      have hrf := hC.1.rf
      have hlt := hC.1.lt
      have HB := hide hC.1.bel
      clear hC h2
      go_wp2
      exact bodyPost_ret (v := .agg #[.bool ng, .int .i64 ((fd : Nat)), .int .u64 (dgl r 0 : Nat), .int .u64 (dgl r 1 : Nat), .int .u64 (dgl r 2 : Nat), .int .u64 (dgl r 3 : Nat), .int .u64 (dgl r 4 : Nat), .int .u64 (dgl r 5 : Nat), .int .u64 (dgl r 6 : Nat), .int .u64 (dgl r 7 : Nat)]) (by simp [results, Tryd.results156, go_sem, r0, r1, q0, q1, q2, q3, q4, q5, q6, q7, hlt]) rfl ⟨rfl, ((((((((((HB.out.setCell (p := ⟨w.heap.size + 1 + 1, 0, none⟩) (by simp; omega) _).setCell (p := ⟨w.heap.size + 1 + 1, 1, none⟩) (by simp; omega) _).setCell (p := ⟨w.heap.size + 1 + 1, 2, none⟩) (by simp; omega) _).setCell (p := ⟨w.heap.size + 1 + 1, 3, none⟩) (by simp; omega) _).setCell (p := ⟨w.heap.size + 1 + 1, 4, none⟩) (by simp; omega) _).setCell (p := ⟨w.heap.size + 1 + 1, 5, none⟩) (by simp; omega) _).setCell (p := ⟨w.heap.size + 1 + 1, 6, none⟩) (by simp; omega) _).setCell (p := ⟨w.heap.size + 1 + 1, 7, none⟩) (by simp; omega) _).setCell (p := ⟨w.heap.size + 1 + 1, 8, none⟩) (by simp; omega) _).setCell (p := ⟨w.heap.size + 1 + 1, 9, none⟩) (by simp; omega) _)⟩

end Go.Proofs.YtpcjdllijkjdkaaDoor

/- Contracts: pack.Flags, ParseFlags; the table of letters. -/
set_option linter.unusedVariables false
set_option linter.unusedSimpArgs false
set_option maxRecDepth 8000
namespace Go.Proofs.YtpcjdllijkjdkaaDoor
open Go.RowKit Plain Go.ChangeShapes Go.WideShapes

def letL : List (List UInt8) := [[105], [122], [111], [117], [120]]
section
variable {H : Type} {enc : TypeId × Value → H} {W : World} {base : Nat} {sp : Nat → Bool} {held : Bool}
theorem let_one {n : Nat} {c : Value} {x : DataW H × List MemPlace} {a : List UInt8} (h : DataW.trod enc Tryd.prog W base sp held n 9 [c] = some x) (hx : x.1 = .lit (.string a)) : c = .string ⟨a.toArray⟩ := by
  obtain ⟨k, e1, e2, _⟩ := DataW.trod_string Tryd.underlying9 h
  simp at e1
  subst e1
  rw [e2] at hx
  simp at hx
  rw [← hx]
theorem llist5 {l : List Value} (h : l.length = 5) : ∃ a b c d e, l = [a, b, c, d, e] := by
  match l, h with
  | [a, b, c, d, e], _ => exact ⟨a, b, c, d, e, rfl⟩
theorem let_all {fuel : Nat} {cs : List Value} {p : List MemPlace} (h : DataW.trod enc Tryd.prog W base sp held fuel 115 cs = some (Rows.laid_radicand_pack_letters, p)) : cs = letL.map (fun l => Value.string ⟨l.toArray⟩) := by
  obtain ⟨xs, m, _, hx, hl, hlen, hf⟩ := DataW.trod_array Tryd.underlying115 h
  have hl5 : cs.length = 5 := hl.trans (by kernel_rfl)
  have c1 : Tryd.prog.cellsOf 9 = 1 := by kernel_rfl
  obtain ⟨c0, c1', c2, c3, c4, rfl⟩ := llist5 hl5
  match xs, hlen, hx, hf with
  | [y0, y1, y2, y3, y4], _, hx, hf =>
    unfold Rows.laid_radicand_pack_letters at hx
    simp only [List.map_cons, List.map_nil, Prod.mk.injEq, DataW.agg.injEq, List.cons.injEq] at hx
    have g0 := hf 0 (by decide)
    have g1 := hf 1 (by decide)
    have g2 := hf 2 (by decide)
    have g3 := hf 3 (by decide)
    have g4 := hf 4 (by decide)
    rw [c1] at g0 g1 g2 g3 g4
    rw [let_one g0 hx.1.1.symm, let_one g1 hx.1.2.1.symm, let_one g2 hx.1.2.2.1.symm, let_one g3 hx.1.2.2.2.1.symm, let_one g4 hx.1.2.2.2.2.1.symm]
    rfl
end
structure LetG (W : World) : Prop where
  c : ∀ i, i < 5 → W.cell? ⟨0, i, none⟩ = some (.string ⟨(letL.getD i []).toArray⟩)
  lt : 0 < W.heap.size
theorem LetG.below {W W' : World} (h : LetG W) (hb : Below W.heap.size W W') : LetG W' :=
  ⟨fun i hi => (hb.cell (p := ⟨0, i, none⟩) h.lt).trans (h.c i hi), Nat.lt_of_lt_of_le h.lt hb.size⟩
theorem gLetters : Tryd.prog.globalNamed "radicand/pack.letters" = some 0 := by kernel_rfl
theorem tLetters : (Tryd.prog.globals[0]?).map (·.type) = some 115 := by kernel_rfl
theorem of_laidL {W : World} (h : laidMetH Tryd.prog [("radicand/format.formats", Rows.laid_radicand_format_formats), ("radicand/pack.letters", Rows.laid_radicand_pack_letters)] W) : FmtG W ∧ LetG W := by
  rw [MakeChecks.laidMetH_plain _ _ _ (by kernel_rfl)] at h
  obtain ⟨ps, ⟨g0, t0, cs0, f0, p0, q0, hg0, ht0, hv0, hd0, ⟨g1, t1, cs1, f1, p1, q1, hg1, ht1, hv1, hd1, _, _⟩, _⟩, _, _⟩ := h
  obtain rfl := Option.some.inj (gFormats.symm.trans hg0)
  obtain rfl := Option.some.inj (gLetters.symm.trans hg1)
  obtain rfl := Option.some.inj (tFormats.symm.trans ht0)
  obtain rfl := Option.some.inj (tLetters.symm.trans ht1)
  have h0 := fmt_all hd0
  have h1 := let_all hd1
  have k0 : ∀ i, i < 20 → W.cell? ⟨1, i, none⟩ = some (.int .i64 (fmtL.getD i 0)) := fun i hi => by
    rw [World.var?_cell hg0 hv0 i, ← Array.getElem?_toList, h0, List.getElem?_map]
    match i, hi with
    | 0, _ | 1, _ | 2, _ | 3, _ | 4, _ | 5, _ | 6, _ | 7, _ | 8, _ | 9, _ | 10, _ | 11, _ | 12, _ | 13, _ | 14, _ | 15, _ | 16, _ | 17, _ | 18, _ | 19, _ => rfl
    | n + 20, hi => omega
  have k1 : ∀ i, i < 5 → W.cell? ⟨0, i, none⟩ = some (.string ⟨(letL.getD i []).toArray⟩) := fun i hi => by
    rw [World.var?_cell hg1 hv1 i, ← Array.getElem?_toList, h1, List.getElem?_map]
    match i, hi with
    | 0, _ | 1, _ | 2, _ | 3, _ | 4, _ => rfl
    | n + 5, hi => omega
  exact ⟨⟨k0, cell_lt (k0 0 (by decide))⟩, ⟨k1, cell_lt (k1 0 (by decide))⟩⟩

/-- The letters of flags, as far as the first k of them go. -/
def fT (n : Nat) : Nat → List UInt8
  | 0 => []
  | k + 1 => fT n k ++ (bif n / 2 ^ k % 2 == 1 then letL.getD k [] else [])
def sT (l : List UInt8) : ByteArray := ⟨l.toArray⟩
theorem sT_app (l m : List UInt8) : sT l ++ sT m = sT (l ++ m) := by
  apply ByteArray.ext
  show (sT l ++ sT m).data = _
  simp [sT]
theorem sT_size (l : List UInt8) : (sT l).size = l.length := by
  show (l.toArray).size = _
  simp
theorem fT_len (n k : Nat) : (fT n k).length ≤ k := by
  induction k with
  | zero => exact Nat.le_refl _
  | succ k ih =>
    unfold fT
    rw [List.length_append]
    have h : (bif n / 2 ^ k % 2 == 1 then letL.getD k [] else []).length ≤ 1 := by
      cases n / 2 ^ k % 2 == 1
      · exact Nat.zero_le _
      · match k with
        | 0 | 1 | 2 | 3 | 4 => exact Nat.le_refl _
        | k + 5 => exact Nat.zero_le _
    omega
theorem letAt_0 (w : World) : (Instr.index 115 (.agg #[.string ⟨#[105]⟩, .string ⟨#[122]⟩, .string ⟨#[111]⟩, .string ⟨#[117]⟩, .string ⟨#[120]⟩]) (.int .i64 0)).run Tryd.prog w = .ok (.string ⟨#[105]⟩) w := by kernel_rfl
theorem letAt_1 (w : World) : (Instr.index 115 (.agg #[.string ⟨#[105]⟩, .string ⟨#[122]⟩, .string ⟨#[111]⟩, .string ⟨#[117]⟩, .string ⟨#[120]⟩]) (.int .i64 1)).run Tryd.prog w = .ok (.string ⟨#[122]⟩) w := by kernel_rfl
theorem letAt_2 (w : World) : (Instr.index 115 (.agg #[.string ⟨#[105]⟩, .string ⟨#[122]⟩, .string ⟨#[111]⟩, .string ⟨#[117]⟩, .string ⟨#[120]⟩]) (.int .i64 2)).run Tryd.prog w = .ok (.string ⟨#[111]⟩) w := by kernel_rfl
theorem letAt_3 (w : World) : (Instr.index 115 (.agg #[.string ⟨#[105]⟩, .string ⟨#[122]⟩, .string ⟨#[111]⟩, .string ⟨#[117]⟩, .string ⟨#[120]⟩]) (.int .i64 3)).run Tryd.prog w = .ok (.string ⟨#[117]⟩) w := by kernel_rfl
theorem letAt_4 (w : World) : (Instr.index 115 (.agg #[.string ⟨#[105]⟩, .string ⟨#[122]⟩, .string ⟨#[111]⟩, .string ⟨#[117]⟩, .string ⟨#[120]⟩]) (.int .i64 4)).run Tryd.prog w = .ok (.string ⟨#[120]⟩) w := by kernel_rfl
theorem letAt (k : Nat) (hk : k < 5) (w : World) : (Instr.index 115 (.agg #[.string ⟨#[105]⟩, .string ⟨#[122]⟩, .string ⟨#[111]⟩, .string ⟨#[117]⟩, .string ⟨#[120]⟩]) (.int .i64 (k : Nat))).run Tryd.prog w = .ok (.string (sT (letL.getD k []))) w := by
  match k, hk with
  | 0, _ => exact letAt_0 w
  | 1, _ => exact letAt_1 w
  | 2, _ => exact letAt_2 w
  | 3, _ => exact letAt_3 w
  | 4, _ => exact letAt_4 w
theorem bit_and : ∀ n : Fin 32, ∀ k : Fin 5, (bits BinOp.and IntKind.i64 (((n.1 : Nat) : Int) / 2 ^ k.1) 1 == 1) = (n.1 / 2 ^ k.1 % 2 == 1) := by decide +kernel
theorem ret_st {s t : ByteArray} (h : s = t) : Ending.returned (.string s) = Ending.returned (.string t) := by rw [h]

set_option maxHeartbeats 1000000 in
theorem flags_out (x : Int) (h : x < 0 ∨ 32 ≤ x) (w : World) : Calls Tryd.prog 29 #[.int .i64 x] w fun e w' => e = .returned (.string (sT [])) ∧ w' = w := by
  go_enter Tryd.func29, Tryd.ntmps29
  by_cases h0 : x < 0
  · go_wp2
    go_ret
    exact ⟨rfl, rfl⟩
  · have h1 : 32 ≤ x := by omega
    clear h
    go_wp2
    go_ret
    exact ⟨rfl, rfl⟩
theorem flags_nil (w : World) : Calls Tryd.prog 29 #[.int .i64 0] w fun e w' => e = .returned (.string (sT [45])) ∧ w' = w := by
  go_enter Tryd.func29, Tryd.ntmps29
  go_wp2
  go_ret
  exact ⟨rfl, rfl⟩
set_option maxHeartbeats 2000000 in
theorem flags_some (n : Nat) (h0 : 0 < n) (h : n < 32) (w : World) (hg : LetG w) : Calls Tryd.prog 29 #[.int .i64 (n : Nat)] w fun e w' => e = .returned (.string (sT (fT n 5))) ∧ w' = w := by
  have c0 : w.cell? ⟨0, 0, none⟩ = some (.string ⟨#[105]⟩) := hg.c 0 (by decide)
  have c1 : w.cell? ⟨0, 1, none⟩ = some (.string ⟨#[122]⟩) := hg.c 1 (by decide)
  have c2 : w.cell? ⟨0, 2, none⟩ = some (.string ⟨#[111]⟩) := hg.c 2 (by decide)
  have c3 : w.cell? ⟨0, 3, none⟩ = some (.string ⟨#[117]⟩) := hg.c 3 (by decide)
  have c4 : w.cell? ⟨0, 4, none⟩ = some (.string ⟨#[120]⟩) := hg.c 4 (by decide)
  have hlt := hg.lt
  clear hg
  have HT := hide (fT_len n)
  have hn0 : ¬ (n : Int) < 0 := by omega
  have hn1 : ¬ (32 : Int) ≤ (n : Int) := by omega
  have hn2 : ((n : Int) == 0) = false := by rw [beq_eq_false_iff_ne]; omega
  go_enter Tryd.func29, Tryd.ntmps29
  go_wp2
  go_loop [3, 17] (fun o i => ∃ k : Nat, k ≤ 5 ∧ o = .string (sT (fT n k)) ∧ i = .int .i64 k) (fun o i => 5 - (intOf i).toNat)
  case atStart => exact ⟨0, by decide, rfl, rfl⟩
  case round =>
    obtain ⟨k, hk, rfl, rfl⟩ := hrel
    by_cases hlt5 : k < 5
    · have hj : (k : Int) < 5 := by omega
      have hx := fun w => letAt k hlt5 w
      have HE : Hid (fT n (k + 1) = fT n k ++ (bif n / 2 ^ k % 2 == 1 then letL.getD k [] else [])) := rfl
      have hsz : (sT (fT n k)).size ≤ 10 := by rw [sT_size]; have := HT.out k; omega
      have hsz2 : (sT (letL.getD k [])).size ≤ 10 := by
        match k, hlt5 with
        | 0, _ | 1, _ | 2, _ | 3, _ | 4, _ => decide
      have hb := bit_and ⟨n, h⟩ ⟨k, hlt5⟩
      simp only at hb
      cases hbv : (n / 2 ^ k % 2 == 1)
      · rw [hbv] at hb HE
        replace HE := hide (HE.out.trans (List.append_nil _))
        generalize letL.getD k [] = lk at *
        go_wp2
        go_round
        case rel => exact ⟨k + 1, by omega, by rw [HE.out], rfl⟩
        case measure =>
          show 5 - ((k : Int) + 1).toNat < 5 - ((k : Int)).toNat
          omega
      · rw [hbv] at hb HE
        have HE2 : Hid (sT (fT n k) ++ sT (letL.getD k []) = sT (fT n (k + 1))) := by unfold Hid; rw [sT_app, HE.out]; rfl
        clear HE
        generalize letL.getD k [] = lk at *
        go_wp2
        go_round
        case rel => exact ⟨k + 1, by omega, congrArg Value.string HE2.out, rfl⟩
        case measure =>
          show 5 - ((k : Int) + 1).toNat < 5 - ((k : Int)).toNat
          omega
    · have hj : ¬ (k : Int) < 5 := by omega
      have HK := hide (show k = 5 by omega)
      go_wp2
      go_ret
      exact ⟨ret_st (by rw [HK.out]), rfl⟩
/-- The text of flags. -/
def flT (x : Int) : List UInt8 := if x < 0 ∨ 32 ≤ x then [] else if x = 0 then [45] else fT x.toNat 5
theorem flags_any (x : Int) (w : World) (hg : LetG w) : Calls Tryd.prog 29 #[.int .i64 x] w fun e w' => e = .returned (.string (sT (flT x))) ∧ w' = w := by
  unfold flT
  by_cases h : x < 0 ∨ 32 ≤ x
  · rw [if_pos h]; exact flags_out x h w
  · rw [if_neg h]
    by_cases h0 : x = 0
    · rw [if_pos h0]; subst h0; exact flags_nil w
    · rw [if_neg h0]
      obtain ⟨n, rfl⟩ : ∃ n : Nat, x = (n : Int) := ⟨x.toNat, by omega⟩
      exact flags_some n (by omega) (by omega) w hg
theorem flT_inj : ∀ a b : Fin 32, flT ((a.1 : Nat) : Int) = flT ((b.1 : Nat) : Int) → a = b := by decide +kernel
theorem flT_some : ∀ a : Fin 32, flT ((a.1 : Nat) : Int) ≠ [] := by decide +kernel
theorem sT_inj {l m : List UInt8} (h : sT l = sT m) : l = m := by
  have h1 : (sT l).data = (sT m).data := by rw [h]
  have h2 : l.toArray = m.toArray := h1
  simpa using h2
theorem str_eq (t s : ByteArray) : (t.toList == s.toList) = decide (t = s) := by
  rw [Bool.eq_iff_iff, beq_iff_eq, decide_eq_true_iff, ByteArray.toList_eq, ByteArray.toList_eq]
  constructor
  · intro h
    apply ByteArray.ext
    exact Array.toList_inj.1 h
  · intro h; rw [h]
theorem ret_ii {a b c d : Int} (h : a = b) (h2 : c = d) : Ending.returned (.tuple #[.int .i64 a, .int .i64 c]) = Ending.returned (.tuple #[.int .i64 b, .int .i64 d]) := by rw [h, h2]
set_option maxHeartbeats 1000000 in
theorem parse_any (s : ByteArray) (N : Nat) (hN : N ≤ 32) (hlo : ∀ i, i < N → sT (flT (i : Nat)) ≠ s) (hhi : N < 32 → sT (flT (N : Nat)) = s) (r e : Int) (hr : r = if N < 32 then (N : Int) else 0) (he : e = if N < 32 then 0 else 2) (w : World) (hg : LetG w) :
    Calls Tryd.prog 30 #[.string s] w fun e' w' => e' = .returned (.tuple #[.int .i64 r, .int .i64 e]) ∧ Below w.heap.size w w' := by
  have HLO := hide hlo
  have HHI := hide hhi
  have HR := hide hr
  have HEE := hide he
  have HF := hide (fun x w' (hb : Below w.heap.size w w') => flags_any x w' (hg.below hb))
  clear hlo hhi hr he hg
  go_enter Tryd.func30, Tryd.ntmps30
  go_wp2
  go_loopw [5] (fun i wr => ∃ k : Nat, k ≤ N ∧ i = .int .i64 k ∧ Hid (Below w.heap.size w wr)) (fun i _ => 32 - (intOf i).toNat)
  case atStart => exact ⟨0, Nat.zero_le _, rfl, Below.refl _ _⟩
  case round =>
    obtain ⟨k, hk, rfl, hst⟩ := hrel
    by_cases hlt : k < 32
    · have hj : (k : Int) < 32 := by omega
      have HLK := hide (HLO.out k)
      have HHK : Hid (k = N → sT (flT (k : Nat)) = s) := fun h => by subst h; exact HHI.out hlt
      have HFK := hide (HF.out (k : Nat) _ hst.out)
      generalize sT (flT (k : Nat)) = t at *
      go_wp2_with fail
      refine HFK.out.mono ?_
      rintro e_ wl ⟨rfl, hw⟩
      subst wl
      by_cases hts : t = s
      · have hkN : k = N := by
          rcases Nat.lt_or_eq_of_le hk with h1 | h1
          · exact absurd hts (HLK.out h1)
          · exact h1
        have H1 : Hid ((k : Int) = r) := by unfold Hid; rw [HR.out, if_pos (by omega)]; omega
        have H2 : Hid ((0 : Int) = e) := by unfold Hid; rw [HEE.out, if_pos (by omega)]
        clear HLK HHK hkN
        go_wp2
        exact bodyPost_ret (v := .tuple #[.int .i64 (k : Int), .int .i64 0]) (by simp [results, Tryd.results30, go_sem]) rfl ⟨ret_ii H1.out H2.out, hst.out⟩
      · have hkN : k ≠ N := fun h => hts (HHK.out h)
        have hlt2 : k + 1 ≤ N := by omega
        have hd : (t.toList == s.toList) = false := by rw [str_eq]; exact decide_eq_false hts
        clear HLK HHK hkN
        go_wp2
        go_roundw
        case rel => exact ⟨k + 1, hlt2, by go_num, hst⟩
        case measure => first | (simp [intOf]; done) | (simp [intOf]; omega)
    · have H1 : Hid ((0 : Int) = r) := by unfold Hid; rw [HR.out, if_neg (by omega)]
      have H2 : Hid ((2 : Int) = e) := by unfold Hid; rw [HEE.out, if_neg (by omega)]
      have hj : ¬ (k : Int) < 32 := by omega
      go_wp2
      exact bodyPost_ret (v := .tuple #[.int .i64 0, .int .i64 2]) (by simp [results, Tryd.results30, go_sem]) rfl ⟨ret_ii H1.out H2.out, hst.out⟩
/-- The first flags with a text, or 32. -/
noncomputable def pfN (s : ByteArray) : Nat → Nat
  | 0 => 32
  | k + 1 => open Classical in if sT (flT ((31 - k : Nat) : Int)) = s then 31 - k else pfN s k
theorem pfN_spec (s : ByteArray) (c : Nat) (hc : c ≤ 32) : 32 - c ≤ pfN s c ∧ pfN s c ≤ 32 ∧ (∀ i, 32 - c ≤ i → i < pfN s c → sT (flT (i : Nat)) ≠ s) ∧ (pfN s c < 32 → sT (flT ((pfN s c : Nat) : Int)) = s) := by
  induction c with
  | zero => exact ⟨Nat.le_refl _, Nat.le_refl _, fun i h1 h2 => by have : i < 32 := h2; omega, fun h => absurd h (Nat.lt_irrefl _)⟩
  | succ k ih =>
    obtain ⟨h1, h2, h3, h4⟩ := ih (by omega)
    unfold pfN
    split
    · rename_i h
      exact ⟨by omega, by omega, fun i a b => by omega, fun _ => h⟩
    · rename_i h
      refine ⟨by omega, h2, fun i a b => ?_, h4⟩
      by_cases hi : i = 31 - k
      · rw [hi]; exact h
      · exact h3 i (by omega) b

end Go.Proofs.YtpcjdllijkjdkaaDoor

