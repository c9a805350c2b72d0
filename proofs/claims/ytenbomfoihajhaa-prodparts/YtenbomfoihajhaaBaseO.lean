/- Contracts and laws: ProdH, ProdI. -/
import Derived.Test.YtenbomfoihajhaaBaseN
/- Contracts: prod.Part; radicandref03.Part. -/
set_option linter.unusedVariables false
set_option linter.unusedSimpArgs false
set_option maxRecDepth 8000
namespace Go.Proofs.Ytenbomfoihajhaa
open Go.RowKit Plain

/-- The limbs' products from a place on are wanted. -/
def fromP (p : Nat) : Nat → Bool := fun d => decide (p ≤ d)
def rowT (a b p i : Nat) : Nat → Nat
  | 0 => 0
  | k + 1 => rowT a b p i k + cw a b (fromP p) i k * LW ^ (i + k - p)
def allT (a b p : Nat) : Nat → Nat
  | 0 => 0
  | i + 1 => allT a b p i + rowT a b p i 8
theorem cw_below (a b p i k : Nat) (h : ¬ p ≤ i + k) : cw a b (fromP p) i k = 0 := by unfold cw fromP; rw [decide_eq_false h]; rfl
theorem cw_from (a b p i k : Nat) (h : p ≤ i + k) : cw a b (fromP p) i k = dgl a i * dgl b k := by unfold cw fromP; rw [decide_eq_true h]; rfl
theorem rowT_up (a b p i : Nat) : ∀ k, rowT a b p i k * LW ^ p = rowS a b (fromP p) i k
  | 0 => by unfold rowT rowS; rw [Nat.zero_mul]
  | k + 1 => by
    unfold rowT rowS
    rw [Nat.add_mul, rowT_up a b p i k]
    congr 1
    by_cases h : p ≤ i + k
    · rw [Nat.mul_assoc, ← Nat.pow_add, Nat.sub_add_cancel h]
    · rw [cw_below a b p i k h, Nat.zero_mul, Nat.zero_mul, Nat.zero_mul]
theorem allT_up (a b p : Nat) : ∀ i, allT a b p i * LW ^ p = allS a b (fromP p) i
  | 0 => by unfold allT allS; rw [Nat.zero_mul]
  | i + 1 => by
    unfold allT allS
    rw [Nat.add_mul, allT_up a b p i, rowT_up]
theorem allS_div (a b p : Nat) : allS a b (fromP p) 8 / LW ^ p = allT a b p 8 := by
  rw [← allT_up, Nat.mul_div_cancel _ (Nat.pow_pos lw_pos)]

/-- What a row lacks. -/
theorem row_lack (a b p i : Nat) : ∀ k, rowS a b (fromP p) i k + dgl a i * LW ^ i * (b % LW ^ (min k (p - i))) = dgl a i * LW ^ i * (b % LW ^ k)
  | 0 => by rw [Nat.zero_min, Nat.pow_zero, Nat.mod_one, Nat.mul_zero]; rfl
  | k + 1 => by
    have ih := row_lack a b p i k
    unfold rowS
    by_cases h : p ≤ i + k
    · rw [cw_from a b p i k h, show min (k + 1) (p - i) = min k (p - i) by omega, mod_up b k, Nat.mul_add, ← ih]
      have e : dgl a i * dgl b k * LW ^ (i + k) = dgl a i * LW ^ i * (LW ^ k * dgl b k) := by rw [Nat.pow_add]; ac_rfl
      rw [e]; omega
    · rw [cw_below a b p i k h, Nat.zero_mul, Nat.add_zero, show min (k + 1) (p - i) = k + 1 by omega]
      rw [show min k (p - i) = k by omega] at ih
      have h0 : rowS a b (fromP p) i k = 0 := by omega
      rw [h0, Nat.zero_add]
theorem lack_lt (a b p i : Nat) (h : i < p) : dgl a i * LW ^ i * (b % LW ^ (min 8 (p - i))) < LW ^ (p + 1) := by
  have h1 : dgl a i + 1 ≤ LW := dgl_lt a i
  have h2 : b % LW ^ (min 8 (p - i)) + 1 ≤ LW ^ (p - i) := by
    have := Nat.mod_lt b (Nat.pow_pos (n := min 8 (p - i)) lw_pos)
    have h3 : LW ^ (min 8 (p - i)) ≤ LW ^ (p - i) := Nat.pow_le_pow_right lw_pos (by omega)
    omega
  have hp : 0 < LW ^ i := Nat.pow_pos lw_pos
  have e : LW ^ (p + 1) = LW * LW ^ i * LW ^ (p - i) := by rw [show p + 1 = 1 + i + (p - i) by omega, Nat.pow_add, Nat.pow_add, Nat.pow_one]
  rw [e]
  have h4 : dgl a i * LW ^ i < LW * LW ^ i := Nat.mul_lt_mul_of_pos_right h1 hp
  exact Nat.lt_of_le_of_lt (Nat.mul_le_mul_right _ (Nat.le_of_lt h4)) (Nat.mul_lt_mul_of_pos_left h2 (Nat.mul_pos lw_pos hp))
theorem all_lack (a b p : Nat) (hb : b < QQ) (hp1 : 1 ≤ p) : ∀ i, i ≤ 8 → allS a b (fromP p) i ≤ (a % LW ^ i) * b ∧ ((a % LW ^ i) * b ≤ allS a b (fromP p) i + (min i p) * (LW ^ (p + 1) - 1))
  | 0, _ => by
    rw [Nat.pow_zero, Nat.mod_one, Nat.zero_mul]
    exact ⟨Nat.le_refl _, Nat.zero_le _⟩
  | i + 1, hi => by
    obtain ⟨h1, h2⟩ := all_lack a b p hb hp1 i (by omega)
    have hr := row_lack a b p i 8
    rw [show b % LW ^ 8 = b from Nat.mod_eq_of_lt hb] at hr
    have e : (a % LW ^ (i + 1)) * b = (a % LW ^ i) * b + dgl a i * LW ^ i * b := by rw [mod_up, Nat.add_mul]; congr 1; ac_rfl
    unfold allS
    rw [e]
    by_cases h : i < p
    · have hl := lack_lt a b p i h
      rw [show min (i + 1) p = min i p + 1 by omega, Nat.add_mul, Nat.one_mul]
      omega
    · rw [show min 8 (p - i) = 0 by omega, Nat.pow_zero, Nat.mod_one, Nat.mul_zero] at hr
      rw [show min (i + 1) p = min i p by omega]
      omega
theorem part_le (a b p : Nat) (ha : a < QQ) (hb : b < QQ) : allS a b (fromP p) 8 ≤ a * b ∧ (p = 0 → allS a b (fromP p) 8 = a * b) ∧ (1 ≤ p → a * b < allS a b (fromP p) 8 + p * LW ^ (p + 1)) := by
  have h0 : p = 0 → allS a b (fromP p) 8 = a * b := by
    intro h
    subst h
    rw [← all_mul a b ha hb]
    congr 1
  by_cases hp : 1 ≤ p
  · obtain ⟨h1, h2⟩ := all_lack a b p hb hp 8 (Nat.le_refl _)
    rw [show a % LW ^ 8 = a from Nat.mod_eq_of_lt ha] at h1 h2
    refine ⟨h1, h0, fun _ => ?_⟩
    have h3 : min 8 p * (LW ^ (p + 1) - 1) ≤ p * (LW ^ (p + 1) - 1) := Nat.mul_le_mul_right _ (by omega)
    have hq : 0 < LW ^ (p + 1) := Nat.pow_pos lw_pos
    have h4 : p * (LW ^ (p + 1) - 1) < p * LW ^ (p + 1) := Nat.mul_lt_mul_of_pos_left (by omega) (by omega)
    omega
  · refine ⟨Nat.le_of_eq (h0 (by omega)), h0, fun h => absurd h hp⟩

theorem ref3_step (a b p i k : Nat) (h : p ≤ i + k) : rowT a b p i k + dgl a i * dgl b k * 2 ^ (64 * (i + k - p)) = rowT a b p i (k + 1) := by
  show _ = rowT a b p i k + cw a b (fromP p) i k * LW ^ (i + k - p)
  rw [cw_from a b p i k h, show LW ^ (i + k - p) = 2 ^ (64 * (i + k - p)) from LLpow _]

set_option maxHeartbeats 4000000 in
theorem ref3Part_any (a b p : Nat) (hp : p ≤ 14) (w : World) :
    Calls Try.prog 51 #[.agg #[.int .u64 (dgl (a) 0 : Nat), .int .u64 (dgl (a) 1 : Nat), .int .u64 (dgl (a) 2 : Nat), .int .u64 (dgl (a) 3 : Nat), .int .u64 (dgl (a) 4 : Nat), .int .u64 (dgl (a) 5 : Nat), .int .u64 (dgl (a) 6 : Nat), .int .u64 (dgl (a) 7 : Nat)], .agg #[.int .u64 (dgl (b) 0 : Nat), .int .u64 (dgl (b) 1 : Nat), .int .u64 (dgl (b) 2 : Nat), .int .u64 (dgl (b) 3 : Nat), .int .u64 (dgl (b) 4 : Nat), .int .u64 (dgl (b) 5 : Nat), .int .u64 (dgl (b) 6 : Nat), .int .u64 (dgl (b) 7 : Nat)], .int .i64 (p : Nat)] w fun e w' => ∃ v, e = .returned v ∧ BigV w' v (allT a b p 8) 104 ∧ Below w.heap.size w w' := by
  have HS0 := hide (TwoSt.start w (dgl a) (dgl b))
  go_enter Try.func51, Try.ntmps51
  go_wp2
  go_loopw [7, 8] (fun v i wr => ∃ ii : Nat, ii ≤ 8 ∧ i = .int .i64 ii ∧ BigV wr v (allT a b p ii) (40 + 8 * ii) ∧ Hid (TwoSt w (dgl a) (dgl b) wr))
    (fun _ i _ => 8 - (intOf i).toNat)
  case atStart => exact ⟨0, by omega, rfl, (mk0_big _ _).mono (by omega), HS0.out.below (below_allocs _ _)⟩
  case round =>
    clear HS0
    obtain ⟨i, hi, rfl, hbig, hst⟩ := hrel
    by_cases hlt : i < 8
    · have hj1 : (i : Int) < 8 := by omega
      go_wp2
      go_loopw [7, 9] (fun v k wr => ∃ kk : Nat, kk ≤ 8 ∧ k = .int .i64 kk ∧ BigV wr v (allT a b p i + rowT a b p i kk) (40 + 8 * i + kk) ∧ Hid (TwoSt w (dgl a) (dgl b) wr))
        (fun _ k _ => 8 - (intOf k).toNat)
      case atStart => exact ⟨0, by omega, rfl, hbig, hst⟩
      case round =>
        clear hbig hst
        obtain ⟨k, hk, rfl, hbig, hst⟩ := hrel
        by_cases hlt2 : k < 8
        · have hj2 : (k : Int) < 8 := by omega
          have hw36 : IntKind.i64.wrap ((i : Int) + (k : Int)) = (i : Int) + (k : Int) := by rw [IntKind.wrap_i64]; omega
          by_cases hge : p ≤ i + k
          · have hge' : (p : Int) ≤ (i : Int) + (k : Int) := by omega
            have hw38 : IntKind.i64.wrap ((i : Int) + (k : Int) - (p : Int)) = (i : Int) + (k : Int) - (p : Int) := by rw [IntKind.wrap_i64]; omega
            have hw39 : IntKind.i64.wrap (64 * ((i : Int) + (k : Int) - (p : Int))) = 64 * ((i : Int) + (k : Int) - (p : Int)) := by rw [IntKind.wrap_i64]; omega
            have HROW := hide (show allT a b p i + rowT a b p i (k + 1) = allT a b p i + rowT a b p i k + dgl a i * dgl b k * 2 ^ (64 * (i + k - p)) by rw [← ref3_step a b p i k hge, Nat.add_assoc])
            have HX64 := hide (show 64 * ((i : Int) + (k : Int) - (p : Int)) = ((64 * (i + k - p) : Nat) : Int) by clear hw36 hw38 hw39; omega)
            have HST := hst
            have hx64 := dgl_lt a i
            have hy64 := dgl_lt b k
            obtain ⟨x, hx⟩ : ∃ x, dgl a i = x := ⟨_, rfl⟩
            obtain ⟨y, hy⟩ : ∃ y, dgl b k = y := ⟨_, rfl⟩
            rw [hx, hy] at HROW
            rw [hx] at hx64
            rw [hy] at hy64
            have HX := hide hx
            have HY := hide hy
            generalize hacc : allT a b p i + rowT a b p i k = acc at *
            obtain ⟨K, hK⟩ : ∃ K, K = 40 + 8 * i + k := ⟨_, rfl⟩
            rw [← hK] at hbig
            have HB7 := hide hbig
            clear hbig hst hx hy hacc
            go_upto_region 9 with fail
            refine wp_region_grow 18 [(24, .big acc K), (25, .val (.int .i64 (i : Nat))), (26, .val (.pointer (some ⟨w.heap.size, i, none⟩))), (27, .val (.int .u64 (x : Nat))), (28, .big x 2), (29, .val (.int .i64 (k : Nat))), (30, .val (.pointer (some ⟨w.heap.size + 1, k, none⟩))), (31, .val (.int .u64 (y : Nat))), (32, .big y 2), (33, .big (x * y) 4), (34, .val (.int .i64 (i : Nat))), (35, .val (.int .i64 (k : Nat))), (36, .val (.int .i64 ((i : Int) + (k : Int)))), (37, .val (.int .i64 (p : Nat))), (38, .val (.int .i64 ((i : Int) + (k : Int) - (p : Int)))), (39, .val (.int .i64 (64 * ((i : Int) + (k : Int) - (p : Int))))), (40, .big (x * y * 2 ^ (64 * (i + k - p))) 40), (41, .big (acc + x * y * 2 ^ (64 * (i + k - p))) (K + 1))]
              (fun W => TwoSt w (dgl a) (dgl b) W ∧ BigV W u7 acc K) mixedOk (by kernel_rfl) (by kernel_rfl) (⟨HST.out.below (Below.refl _ _).drew, HB7.out⟩) (fun W W' h hb => ⟨h.1.below hb, h.2.below hb⟩) ?_ ?_
            · refine gSt (gStep_run rfl ?_) ?_
              · intro ρ W hC hc hf hL
                have e7 : ρ (.tmp 7) = u7 := hL 7 (by decide +kernel)
                simp [go_sem, hc, hf, e7]
                exact ⟨Below.refl _ _, hC.2⟩
              refine gSt (gStep_run rfl (gRun_move 8 25 (.inl rfl) rfl (by decide +kernel) (fun v w h => h))) ?_
              refine gSt (gStep_run rfl ?_) ?_
              · intro ρ W hC hc hf hL
                have e3 : ρ (.tmp 3) = .pointer (some ⟨w.heap.size, 0, none⟩) := hL 3 (by decide +kernel)
                have e25 : ρ (.tmp 25) = .int .i64 (i : Nat) := hL 25 (by decide +kernel)
                simp [go_sem, hc, hf, e3, e25, hj1]
                exact ⟨Below.refl _ _, rfl⟩
              refine gSt (gStep_run rfl ?_) ?_
              · intro ρ W hC hc hf hL
                have e26 : ρ (.tmp 26) = .pointer (some ⟨w.heap.size, i, none⟩) := hL 26 (by decide +kernel)
                have hl := hC.1.la.1 i hlt; rw [HX.out] at hl
                simp [go_sem, hc, hf, e26, hl]
                exact ⟨Below.refl _ _, rfl⟩
              refine gSt (gStep_run rfl ?_) ?_
              · intro ρ W hC hc hf hL
                have e27 : ρ (.tmp 27) = .int .u64 (x : Nat) := hL 27 (by decide +kernel)
                simp [go_sem, hc, hf, e27]
                refine (small_any x hx64 _).mono ?_
                rintro e w' ⟨v, rfl, hv, hb⟩
                exact ⟨_, rfl, hb, hv⟩
              refine gSt (gStep_run rfl (gRun_move 9 29 (.inl rfl) rfl (by decide +kernel) (fun v w h => h))) ?_
              refine gSt (gStep_run rfl ?_) ?_
              · intro ρ W hC hc hf hL
                have e4 : ρ (.tmp 4) = .pointer (some ⟨w.heap.size + 1, 0, none⟩) := hL 4 (by decide +kernel)
                have e29 : ρ (.tmp 29) = .int .i64 (k : Nat) := hL 29 (by decide +kernel)
                simp [go_sem, hc, hf, e4, e29, hj2]
                exact ⟨Below.refl _ _, rfl⟩
              refine gSt (gStep_run rfl ?_) ?_
              · intro ρ W hC hc hf hL
                have e30 : ρ (.tmp 30) = .pointer (some ⟨w.heap.size + 1, k, none⟩) := hL 30 (by decide +kernel)
                have hl := hC.1.lb.1 k hlt2; rw [HY.out] at hl
                simp [go_sem, hc, hf, e30, hl]
                exact ⟨Below.refl _ _, rfl⟩
              refine gSt (gStep_run rfl ?_) ?_
              · intro ρ W hC hc hf hL
                have e31 : ρ (.tmp 31) = .int .u64 (y : Nat) := hL 31 (by decide +kernel)
                simp [go_sem, hc, hf, e31]
                refine (small_any y hy64 _).mono ?_
                rintro e w' ⟨v, rfl, hv, hb⟩
                exact ⟨_, rfl, hb, hv⟩
              refine gSt (gStep_run rfl ?_) ?_
              · intro ρ W hC hc hf hL
                have b28 : BigV W (ρ (.tmp 28)) (x) (2) := hL 28 (by decide +kernel)
                have b32 : BigV W (ρ (.tmp 32)) (y) (2) := hL 32 (by decide +kernel)
                simp [go_sem, hc, hf]
                refine (refMul_any x y 2 2 _ _ _ b28 b32 (by omega) (by omega)).mono ?_
                rintro e w' ⟨v, rfl, hv, hb⟩
                exact ⟨_, rfl, hb, hv⟩
              refine gSt (gStep_run rfl (gRun_move 8 34 (.inl rfl) rfl (by decide +kernel) (fun v w h => h))) ?_
              refine gSt (gStep_run rfl (gRun_move 9 35 (.inl rfl) rfl (by decide +kernel) (fun v w h => h))) ?_
              refine gSt (gStep_run rfl ?_) ?_
              · intro ρ W hC hc hf hL
                have e34 : ρ (.tmp 34) = .int .i64 (i : Nat) := hL 34 (by decide +kernel)
                have e35 : ρ (.tmp 35) = .int .i64 (k : Nat) := hL 35 (by decide +kernel)
                simp [go_sem, hc, hf, e34, e35, hw36]
                exact ⟨Below.refl _ _, rfl⟩
              refine gSt (gStep_run rfl (gRun_move 2 37 (.inl rfl) rfl (by decide +kernel) (fun v w h => h))) ?_
              refine gSt (gStep_run rfl ?_) ?_
              · intro ρ W hC hc hf hL
                have e36 : ρ (.tmp 36) = .int .i64 ((i : Int) + (k : Int)) := hL 36 (by decide +kernel)
                have e37 : ρ (.tmp 37) = .int .i64 (p : Nat) := hL 37 (by decide +kernel)
                simp [go_sem, hc, hf, e36, e37, hw38]
                exact ⟨Below.refl _ _, rfl⟩
              refine gSt (gStep_run rfl ?_) ?_
              · intro ρ W hC hc hf hL
                have e38 : ρ (.tmp 38) = .int .i64 ((i : Int) + (k : Int) - (p : Int)) := hL 38 (by decide +kernel)
                simp [go_sem, hc, hf, e38, hw39]
                exact ⟨Below.refl _ _, rfl⟩
              refine gSt (gStep_run rfl ?_) ?_
              · intro ρ W hC hc hf hL
                have b33 : BigV W (ρ (.tmp 33)) ((x * y)) (4) := hL 33 (by decide +kernel)
                have e39 : ρ (.tmp 39) = .int .i64 (64 * ((i : Int) + (k : Int) - (p : Int))) := hL 39 (by decide +kernel)
                simp [go_sem, hc, hf, e39]
                refine (refShl_int (x * y) 4 (64 * (i + k - p)) _ _ _ b33 (by omega) (by omega) HX64.out).mono ?_
                rintro e w' ⟨v, rfl, hv, hb⟩
                exact ⟨_, rfl, hb, hv.mono (by omega)⟩
              refine gSt (gStep_run rfl ?_) ?_
              · intro ρ W hC hc hf hL
                have b24 : BigV W (ρ (.tmp 24)) (acc) (K) := hL 24 (by decide +kernel)
                have b40 : BigV W (ρ (.tmp 40)) ((x * y * 2 ^ (64 * (i + k - p)))) (40) := hL 40 (by decide +kernel)
                simp [go_sem, hc, hf]
                refine (refAdd_any acc _ K 40 _ _ _ b24 b40 (by omega) (by omega)).mono ?_
                rintro e w' ⟨v, rfl, hv, hb⟩
                exact ⟨_, rfl, hb, hv.mono (by omega)⟩
              exact gSt0
            · intro W hC
              refine gFi 24 rfl ?_
              rintro u24 b24
              refine gFi 25 rfl ?_
              rintro _ rfl
              refine gFi 26 rfl ?_
              rintro _ rfl
              refine gFi 27 rfl ?_
              rintro _ rfl
              refine gFi 28 rfl ?_
              rintro u28 b28
              refine gFi 29 rfl ?_
              rintro _ rfl
              refine gFi 30 rfl ?_
              rintro _ rfl
              refine gFi 31 rfl ?_
              rintro _ rfl
              refine gFi 32 rfl ?_
              rintro u32 b32
              refine gFi 33 rfl ?_
              rintro u33 b33
              refine gFi 34 rfl ?_
              rintro _ rfl
              refine gFi 35 rfl ?_
              rintro _ rfl
              refine gFi 36 rfl ?_
              rintro _ rfl
              refine gFi 37 rfl ?_
              rintro _ rfl
              refine gFi 38 rfl ?_
              rintro _ rfl
              refine gFi 39 rfl ?_
              rintro _ rfl
              refine gFi 40 rfl ?_
              rintro u40 b40
              refine gFi 41 rfl ?_
              rintro u41 b41
              refine gFi0 ?_
              simp only [List.drop_succ_cons, List.drop_zero, Act.put, List.setIfInBounds_toArray, List.set_cons_succ, List.set_cons_zero]
              clear b24 b28 b32 b33 b40
              have HST2 := hide hC.1
              clear hC HST HB7
              go_wp2
              go_roundw
              case rel => exact ⟨k + 1, by omega, by go_num, by rw [HROW.out]; exact b41.mono (by omega), HST2.out⟩
              case measure => simp [intOf]; omega
          · have hge' : ¬ (p : Int) ≤ (i : Int) + (k : Int) := by omega
            have HROW := hide (show rowT a b p i (k + 1) = rowT a b p i k by
              show rowT a b p i k + cw a b (fromP p) i k * LW ^ (i + k - p) = _
              rw [cw_below a b p i k hge, Nat.zero_mul, Nat.add_zero])
            go_wp2
            go_roundw
            case rel => exact ⟨k + 1, by omega, by go_num, by rw [HROW.out]; exact hbig.mono (by omega), hst⟩
            case measure => simp [intOf]; omega
        · have hk8 : k = 8 := by omega
          subst hk8
          go_wp2
          go_roundw
          case rel => exact ⟨i + 1, by omega, by go_num, hbig.mono (by omega), hst⟩
          case measure => simp [intOf]; omega
    · have hi8 : i = 8 := by omega
      subst hi8
      go_wp2
      go_ret
      exact ⟨_, rfl, hbig.mono (by omega), hst.out.bel⟩

end Go.Proofs.Ytenbomfoihajhaa

/- Contracts: prod.Part. -/
set_option linter.unusedVariables false
set_option linter.unusedSimpArgs false
set_option maxRecDepth 8000
namespace Go.Proofs.Ytenbomfoihajhaa
open Go.RowKit Plain

theorem part1_any (p q B : Nat) (w : World) (hc : w.cell? ⟨B, 0, none⟩ = some (.int .i64 (p : Nat))) :
    Calls Try.prog 82 #[.int .i64 (q : Nat), .pointer (some ⟨B, 0, none⟩)] w fun e w' => e = .returned (.bool (fromP p q)) ∧ w' = w := by
  have hd : decide (p ≤ q) = fromP p q := rfl
  go_enter Try.func82, Try.ntmps82
  go_wp2
  go_ret
  exact ⟨ret_bool hd, rfl⟩

structure PartSt (w : World) (p : Int) (fa fb : Nat → Nat) (W : World) : Prop where
  la : LiesF W w.heap.size fa
  lb : LiesF W (w.heap.size + 1) fb
  lp : W.cell? ⟨w.heap.size + 1 + 1, 0, none⟩ = some (.int .i64 p)
  fp : W.frozen? ⟨w.heap.size + 1 + 1, 0, none⟩ = false
  lr : LiesF W (w.heap.size + 1 + 1 + 1) (fun _ => 0)
  fr : ∀ i, W.frozen? ⟨w.heap.size + 1 + 1 + 1, i, none⟩ = false
  bel : Below w.heap.size w W
theorem PartSt.below {w : World} {p : Int} {fa fb : Nat → Nat} {W W' : World} (h : PartSt w p fa fb W) (hb : Below W.heap.size W W') : PartSt w p fa fb W' := by
  have hs := h.lr.2
  exact ⟨h.la.below hb, h.lb.below hb, (hb.cell (p := ⟨w.heap.size + 1 + 1, 0, none⟩) (show w.heap.size + 1 + 1 < _ by omega)).trans h.lp, (hb.frozen (p := ⟨w.heap.size + 1 + 1, 0, none⟩) (show w.heap.size + 1 + 1 < _ by omega)).trans h.fp, h.lr.below hb, fun i => (hb.frozen (p := ⟨w.heap.size + 1 + 1 + 1, i, none⟩) h.lr.2).trans (h.fr i), below_trans h.bel hb⟩
theorem PartSt.start (w : World) (p : Int) (fa fb : Nat → Nat) : PartSt w p fa fb ((((w.alloc (.cells #[.int .u64 (fa 0 : Nat), .int .u64 (fa 1 : Nat), .int .u64 (fa 2 : Nat), .int .u64 (fa 3 : Nat), .int .u64 (fa 4 : Nat), .int .u64 (fa 5 : Nat), .int .u64 (fa 6 : Nat), .int .u64 (fa 7 : Nat)] 24)).alloc (.cells #[.int .u64 (fb 0 : Nat), .int .u64 (fb 1 : Nat), .int .u64 (fb 2 : Nat), .int .u64 (fb 3 : Nat), .int .u64 (fb 4 : Nat), .int .u64 (fb 5 : Nat), .int .u64 (fb 6 : Nat), .int .u64 (fb 7 : Nat)] 24)).alloc (.cells #[.int .i64 p] 3)).alloc (.cells #[.int .u64 0, .int .u64 0, .int .u64 0, .int .u64 0, .int .u64 0, .int .u64 0, .int .u64 0, .int .u64 0] 24)) := by
  have h1 := ((liesF_new w fa 24).alloc (.cells #[.int .u64 (fb 0 : Nat), .int .u64 (fb 1 : Nat), .int .u64 (fb 2 : Nat), .int .u64 (fb 3 : Nat), .int .u64 (fb 4 : Nat), .int .u64 (fb 5 : Nat), .int .u64 (fb 6 : Nat), .int .u64 (fb 7 : Nat)] 24)).alloc (.cells #[.int .i64 p] 3)
  have h2 := (liesF_new (w.alloc (.cells #[.int .u64 (fa 0 : Nat), .int .u64 (fa 1 : Nat), .int .u64 (fa 2 : Nat), .int .u64 (fa 3 : Nat), .int .u64 (fa 4 : Nat), .int .u64 (fa 5 : Nat), .int .u64 (fa 6 : Nat), .int .u64 (fa 7 : Nat)] 24)) fb 24).alloc (.cells #[.int .i64 p] 3)
  have h3 := liesF_new (((w.alloc (.cells #[.int .u64 (fa 0 : Nat), .int .u64 (fa 1 : Nat), .int .u64 (fa 2 : Nat), .int .u64 (fa 3 : Nat), .int .u64 (fa 4 : Nat), .int .u64 (fa 5 : Nat), .int .u64 (fa 6 : Nat), .int .u64 (fa 7 : Nat)] 24)).alloc (.cells #[.int .u64 (fb 0 : Nat), .int .u64 (fb 1 : Nat), .int .u64 (fb 2 : Nat), .int .u64 (fb 3 : Nat), .int .u64 (fb 4 : Nat), .int .u64 (fb 5 : Nat), .int .u64 (fb 6 : Nat), .int .u64 (fb 7 : Nat)] 24)).alloc (.cells #[.int .i64 p] 3)) (fun _ => 0) 24
  simp only [World.size_alloc] at h2 h3
  exact ⟨h1.alloc _, h2.alloc _, by simp [go_sem], by simp [go_sem], h3, fun i => by simp [go_sem], below_trans (below_trans (below_trans (below_allocs _ _) (below_allocs _ _)) (below_allocs _ _)) (below_allocs _ _)⟩
theorem PartSt.setp {w : World} {p q : Int} {fa fb : Nat → Nat} {W : World} (h : PartSt w p fa fb W) : PartSt w q fa fb (W.setCell ⟨w.heap.size + 1 + 1, 0, none⟩ (.int .i64 q)) := by
  refine ⟨⟨fun i hi => ?_, by simpa using h.la.2⟩, ⟨fun i hi => ?_, by simpa using h.lb.2⟩, ?_, by simpa [go_sem] using h.fp, ⟨fun i hi => ?_, by simpa using h.lr.2⟩, fun i => by simpa [go_sem] using h.fr i, h.bel.setCell (by simp; omega) _⟩
  · have := h.la.1 i hi; simp [go_sem, this]
  · have := h.lb.1 i hi; simp [go_sem, this]
  · have := h.lp; simp [go_sem, this]
  · have := h.lr.1 i hi; simp [go_sem, this]

theorem dgl_shift (n p i : Nat) : dgl n (p + i) = dgl (n / LW ^ p) i := by
  unfold dgl LW
  rw [Nat.pow_add, Nat.div_div_eq_div_mul]

theorem of_part (S p b : Nat) (W : World) (hS : S < LW ^ 16) (hp : p ≤ 16) (h : Lies16 W b S) (x : Nat) (hx : x = 16 - p) :
    Calls Try.prog 71 #[.slice (some ⟨b, p, none⟩) x x] W fun e w' => e = .returned (.agg #[.int .u64 (dgl (S / LW ^ p) 0 : Nat), .int .u64 (dgl (S / LW ^ p) 1 : Nat), .int .u64 (dgl (S / LW ^ p) 2 : Nat), .int .u64 (dgl (S / LW ^ p) 3 : Nat), .int .u64 (dgl (S / LW ^ p) 4 : Nat), .int .u64 (dgl (S / LW ^ p) 5 : Nat), .int .u64 (dgl (S / LW ^ p) 6 : Nat), .int .u64 (dgl (S / LW ^ p) 7 : Nat)]) ∧ Below W.heap.size W w' := by
  subst hx
  refine wideOf_any _ (S / LW ^ p) _ W (rd_part h hp) (fun i hi => ?_)
  rw [← dgl_shift]
  by_cases h2 : i < 16 - p
  · simp [dg, h2]
  · rw [getD_past _ _ (by simp; omega)]
    show 0 = S / LW ^ (p + i) % LW
    rw [Nat.div_eq_of_lt (Nat.lt_of_lt_of_le hS (Nat.pow_le_pow_right lw_pos (show 16 ≤ p + i by omega))), Nat.zero_mod]

set_option maxHeartbeats 2000000 in
theorem prodPart_far (a b : Nat) (place : Int) (hp : 14 < place) (w : World) :
    Calls Try.prog 50 #[.agg #[.int .u64 (dgl (a) 0 : Nat), .int .u64 (dgl (a) 1 : Nat), .int .u64 (dgl (a) 2 : Nat), .int .u64 (dgl (a) 3 : Nat), .int .u64 (dgl (a) 4 : Nat), .int .u64 (dgl (a) 5 : Nat), .int .u64 (dgl (a) 6 : Nat), .int .u64 (dgl (a) 7 : Nat)], .agg #[.int .u64 (dgl (b) 0 : Nat), .int .u64 (dgl (b) 1 : Nat), .int .u64 (dgl (b) 2 : Nat), .int .u64 (dgl (b) 3 : Nat), .int .u64 (dgl (b) 4 : Nat), .int .u64 (dgl (b) 5 : Nat), .int .u64 (dgl (b) 6 : Nat), .int .u64 (dgl (b) 7 : Nat)], .int .i64 place] w fun e w' => e = .returned (.agg #[.int .u64 0, .int .u64 0, .int .u64 0, .int .u64 0, .int .u64 0, .int .u64 0, .int .u64 0, .int .u64 0]) ∧ Below w.heap.size w w' := by
  have HST := hide (PartSt.start w place (dgl a) (dgl b))
  go_enter Try.func50, Try.ntmps50
  go_upto_region 1 with fail
  refine wp_gen (fun W => PartSt w place (dgl a) (dgl b) W) HST.out ?_
  rintro W1 h1
  clear HST
  have hcp := h1.lp
  have hr := h1.lr.1
  have hrf := h1.fr
  have hl := h1.lr.2
  have HB := hide h1.bel
  clear h1
  go_wp2
  exact bodyPost_ret (v := .agg #[.int .u64 0, .int .u64 0, .int .u64 0, .int .u64 0, .int .u64 0, .int .u64 0, .int .u64 0, .int .u64 0]) (by simp [results, Try.results50, go_sem, hr, hl]) rfl ⟨rfl, below_set8 HB.out _ (by omega) _ _ _ _ _ _ _ _⟩

theorem row_le (a b : Nat) (wt : Nat → Bool) (i : Nat) : ∀ k, rowS a b wt i k ≤ rowS a b (fun _ => true) i k
  | 0 => Nat.le_refl _
  | k + 1 => by
    unfold rowS
    refine Nat.add_le_add (row_le a b wt i k) (Nat.mul_le_mul_right _ ?_)
    unfold cw
    cases wt (i + k)
    · exact Nat.zero_le _
    · exact Nat.le_refl _
theorem all_le (a b : Nat) (wt : Nat → Bool) : ∀ i, allS a b wt i ≤ allS a b (fun _ => true) i
  | 0 => Nat.le_refl _
  | i + 1 => Nat.add_le_add (all_le a b wt i) (row_le a b wt i 8)
theorem summed_lt (a b : Nat) (wt : Nat → Bool) : allS a b wt 8 < LW ^ 16 := by
  refine Nat.lt_of_le_of_lt (all_le a b wt 8) ?_
  rw [all_all]
  have h1 := Nat.mod_lt a (Nat.pow_pos (n := 8) lw_pos)
  have h2 := Nat.mod_lt b (Nat.pow_pos (n := 8) lw_pos)
  have e : LW ^ 16 = LW ^ 8 * LW ^ 8 := by rw [← Nat.pow_add]
  rw [e]
  exact Nat.mul_lt_mul_of_lt_of_lt h1 h2

set_option maxHeartbeats 4000000 in
theorem prodPart_any (a b p : Nat) (place : Int) (hp : (p : Int) = max place 0) (h14 : place ≤ 14) (w : World) :
    Calls Try.prog 50 #[.agg #[.int .u64 (dgl (a) 0 : Nat), .int .u64 (dgl (a) 1 : Nat), .int .u64 (dgl (a) 2 : Nat), .int .u64 (dgl (a) 3 : Nat), .int .u64 (dgl (a) 4 : Nat), .int .u64 (dgl (a) 5 : Nat), .int .u64 (dgl (a) 6 : Nat), .int .u64 (dgl (a) 7 : Nat)], .agg #[.int .u64 (dgl (b) 0 : Nat), .int .u64 (dgl (b) 1 : Nat), .int .u64 (dgl (b) 2 : Nat), .int .u64 (dgl (b) 3 : Nat), .int .u64 (dgl (b) 4 : Nat), .int .u64 (dgl (b) 5 : Nat), .int .u64 (dgl (b) 6 : Nat), .int .u64 (dgl (b) 7 : Nat)], .int .i64 place] w fun e w' => e = .returned (.agg #[.int .u64 (dgl (allT a b p 8) 0 : Nat), .int .u64 (dgl (allT a b p 8) 1 : Nat), .int .u64 (dgl (allT a b p 8) 2 : Nat), .int .u64 (dgl (allT a b p 8) 3 : Nat), .int .u64 (dgl (allT a b p 8) 4 : Nat), .int .u64 (dgl (allT a b p 8) 5 : Nat), .int .u64 (dgl (allT a b p 8) 6 : Nat), .int .u64 (dgl (allT a b p 8) 7 : Nat)]) ∧ Below w.heap.size w w' := by
  have HST := hide (PartSt.start w place (dgl a) (dgl b))
  have HSU := hide (fun (w' : World) (hc : ∀ wr, Below w'.heap.size w' wr → wr.cell? ⟨w.heap.size + 1 + 1, 0, none⟩ = some (.int .i64 (p : Nat))) => summed_any 82 #[.pointer (some ⟨w.heap.size + 1 + 1, 0, none⟩)] (fromP p) a b w' (enters_of Try.func82 (by kernel_rfl) rfl) (fun q wr hq hb => by rw [app1]; exact part1_any p q (w.heap.size + 1 + 1) wr (hc wr hb)))
  have HOF := hide (fun W b' h x hx => of_part (allS a b (fromP p) 8) p b' W (summed_lt a b (fromP p)) (by omega) h x hx)
  rw [allS_div] at HOF
  generalize allS a b (fromP p) 8 = S at *
  generalize allT a b p 8 = T at *
  have hp14 : p ≤ 14 := by omega
  have HP := hide hp
  clear hp
  go_enter Try.func50, Try.ntmps50
  go_upto_region 1 with fail
  refine wp_gen (fun W => PartSt w place (dgl a) (dgl b) W) HST.out ?_
  rintro W1 h1
  clear HST
  have hcp := h1.lp
  have hfp := h1.fp
  have HST := hide h1
  clear h1
  have hn14 : ¬ 14 < place := by omega
  go_upto_region 3 with fail
  go_cut [12] (fun x wx => PartSt w (p : Int) (dgl a) (dgl b) wx)
  case first =>
    go_wp2
    all_goals
      go_meet
      rw [← HP.out]
      exact HST.out.setp
  case rest =>
    replace HST := hide hcut
    have hca := hcut.la.1
    have hcb := hcut.lb.1
    clear hcut hcp hfp
    go_wp2_with fail
    refine (HSU.out _ (fun wr hb => (HST.out.below hb).lp)).mono ?_
    rintro e w2 ⟨rfl, hb2⟩
    replace HST := hide (HST.out.below hb2)
    clear hb2 hca hcb HSU
    go_upto_region 5 with fail
    refine wp_gen (fun W => PartSt w (p : Int) (dgl a) (dgl b) W ∧ Lies16 W w2.heap.size S) ⟨HST.out.below (below_allocs _ _), lies16_new _ _ _⟩ ?_
    rintro W5 ⟨h5, h16⟩
    generalize w2.heap.size = p7 at *
    have hcp := h5.lp
    have hl7 := h16.2
    have HST := hide h5
    have H16 := hide h16
    clear h5 h16
    have hp14' : (p : Int) ≤ 16 := by omega
    have hpne : ¬ 16 = p := by omega
    go_wp2_with fail
    refine (HOF.out _ _ H16.out _ rfl).mono ?_
    rintro e w6 ⟨rfl, hb6⟩
    replace HST := hide (HST.out.below hb6)
    have hr := HST.out.lr.1
    have hrf := HST.out.fr
    have hl := HST.out.lr.2
    have HB := hide HST.out.bel
    clear hb6 hcp hl7
    go_wp2
    exact bodyPost_ret (v := .agg #[.int .u64 (dgl (T) 0 : Nat), .int .u64 (dgl (T) 1 : Nat), .int .u64 (dgl (T) 2 : Nat), .int .u64 (dgl (T) 3 : Nat), .int .u64 (dgl (T) 4 : Nat), .int .u64 (dgl (T) 5 : Nat), .int .u64 (dgl (T) 6 : Nat), .int .u64 (dgl (T) 7 : Nat)]) (by simp [results, Try.results50, go_sem, hr, hl]) rfl ⟨rfl, below_set8 HB.out _ (by omega) _ _ _ _ _ _ _ _⟩

end Go.Proofs.Ytenbomfoihajhaa

