/- Contracts and laws: UnpI. -/
import Derived.Test.YtidfegilddlglaaDoorXUnH
/- Contracts: unpack.greater, Cmp with their numbers; unpack.Same; the document's sign, Cmp. -/
set_option linter.unusedVariables false
set_option linter.unusedSimpArgs false
set_option maxRecDepth 8000
namespace Go.Proofs.YtidfegilddlglaaDoor
open Go.RowKit Plain

/-- Two numbers without signs, held against each other. -/
def cmpV (a : Nat) (ea : Int) (b : Nat) (eb : Int) : Int := cmpN (vl a ea (min ea eb)) (vl b eb (min ea eb))
theorem cmpN_scale (x y k : Nat) : cmpN (x * 2 ^ k) (y * 2 ^ k) = cmpN x y := by
  have hp := Nat.two_pow_pos k
  have h1 : x * 2 ^ k < y * 2 ^ k ↔ x < y := ⟨fun h => Nat.lt_of_mul_lt_mul_right h, fun h => Nat.mul_lt_mul_of_pos_right h hp⟩
  have h2 : y * 2 ^ k < x * 2 ^ k ↔ y < x := ⟨fun h => Nat.lt_of_mul_lt_mul_right h, fun h => Nat.mul_lt_mul_of_pos_right h hp⟩
  unfold cmpN
  simp only [h1, h2]
theorem cmpV_any (a b : Nat) (ea eb m : Int) (h1 : m ≤ ea) (h2 : m ≤ eb) : cmpV a ea b eb = cmpN (vl a ea m) (vl b eb m) := by
  unfold cmpV
  rw [vl_up (a := a) (m := min ea eb) (k := m) (by omega) (by omega), vl_up (a := b) (m := min ea eb) (k := m) (by omega) (by omega), cmpN_scale]
theorem cmpV_top (a b : Nat) (ea eb : Int) (ha : a ≠ 0) (hb : b ≠ 0) (ht : ea + (Go.bitLen a : Int) ≠ eb + (Go.bitLen b : Int)) : cmpI (ea + (Go.bitLen a : Int) - 1) (eb + (Go.bitLen b : Int) - 1) = cmpV a ea b eb := by
  have hs := sizeZ_spec a b ea eb (min ea eb) (by omega) (by omega)
  unfold sizeZ at hs
  rw [if_neg ha, if_neg hb, if_pos ht] at hs
  unfold cmpV cmpI cmpN
  rcases Int.lt_or_gt_of_ne ht with hl | hl
  · rw [if_pos (by omega), if_pos (hs.1.1 (by omega))]
  · have h3 : ¬ vl a ea (min ea eb) < vl b eb (min ea eb) := fun h => by have := hs.1.2 h; omega
    have h4 : ¬ vl a ea (min ea eb) = vl b eb (min ea eb) := fun h => by have := hs.2.2 h; omega
    rw [if_neg (by omega), if_pos (by omega), if_neg h3, if_pos (by omega)]
theorem cmpV_same (a b : Nat) (ea eb : Int) (hla : Go.bitLen a ≤ 512) (hlb : Go.bitLen b ≤ 512) (ht : ea + (Go.bitLen a : Int) = eb + (Go.bitLen b : Int)) : cmpN (a * 2 ^ (512 - Go.bitLen a)) (b * 2 ^ (512 - Go.bitLen b)) = cmpV a ea b eb := by
  unfold cmpV vl
  obtain ⟨k, hk⟩ : ∃ k : Nat, (k : Int) = 512 - (Go.bitLen a : Int) - (ea - min ea eb) := ⟨(512 - (Go.bitLen a : Int) - (ea - min ea eb)).toNat, by omega⟩
  rw [show 512 - Go.bitLen a = (ea - min ea eb).toNat + k by omega, show 512 - Go.bitLen b = (eb - min ea eb).toNat + k by omega, Nat.pow_add, Nat.pow_add, ← Nat.mul_assoc, ← Nat.mul_assoc, cmpN_scale]
theorem cmpV_zero (ea eb : Int) : cmpV 0 ea 0 eb = 0 := by unfold cmpV; rw [vl_zero, vl_zero]; rfl
theorem cmpN_bd (x y : Nat) : -1 ≤ cmpN x y ∧ cmpN x y ≤ 1 := by
  unfold cmpN
  repeat' split
  all_goals omega
theorem shl_top {s : Nat} (h : s < QQ) : s * 2 ^ (512 - Go.bitLen s) < QQ := by
  have h1 := len_lt s
  have h2 := len_qq h
  obtain ⟨q, hq⟩ : ∃ q, q = 512 := ⟨_, rfl⟩
  have e := qq_pow q hq
  rw [← e, show q = Go.bitLen s + (512 - Go.bitLen s) by omega, Nat.pow_add]
  exact Nat.mul_lt_mul_of_pos_right h1 (Nat.two_pow_pos _)
theorem rgt_bd {z : Int} (h : rgt z = true) : -1048576 ≤ z ∧ z ≤ 1048576 := by
  unfold rgt at h
  rw [Bool.and_eq_true, decide_eq_true_iff, decide_eq_true_iff] at h
  exact h
theorem top_zero (neg : Bool) (z : Int) (hr : rgt z = true) (w : World) : Calls Tryd.prog 48 #[.agg #[.bool (neg), .int .i64 (z), .int .u64 (dgl (0) 0 : Nat), .int .u64 (dgl (0) 1 : Nat), .int .u64 (dgl (0) 2 : Nat), .int .u64 (dgl (0) 3 : Nat), .int .u64 (dgl (0) 4 : Nat), .int .u64 (dgl (0) 5 : Nat), .int .u64 (dgl (0) 6 : Nat), .int .u64 (dgl (0) 7 : Nat)]] w fun e w' => e = .returned (.tuple #[.int .i64 0, .bool false]) ∧ Below w.heap.size w w' := top_Z neg z 0 hr (rgt_bd hr) w
theorem greater_any (n1 n2 : Bool) (ea eb : Int) (a b : Nat) (ha : a < QQ) (hb : b < QQ) (hra : rgt ea = true) (hrb : rgt eb = true) (h0 : a = 0 ↔ b = 0) (w : World) : Calls Tryd.prog 91 #[.agg #[.bool (n1), .int .i64 (ea), .int .u64 (dgl (a) 0 : Nat), .int .u64 (dgl (a) 1 : Nat), .int .u64 (dgl (a) 2 : Nat), .int .u64 (dgl (a) 3 : Nat), .int .u64 (dgl (a) 4 : Nat), .int .u64 (dgl (a) 5 : Nat), .int .u64 (dgl (a) 6 : Nat), .int .u64 (dgl (a) 7 : Nat)], .agg #[.bool (n2), .int .i64 (eb), .int .u64 (dgl (b) 0 : Nat), .int .u64 (dgl (b) 1 : Nat), .int .u64 (dgl (b) 2 : Nat), .int .u64 (dgl (b) 3 : Nat), .int .u64 (dgl (b) 4 : Nat), .int .u64 (dgl (b) 5 : Nat), .int .u64 (dgl (b) 6 : Nat), .int .u64 (dgl (b) 7 : Nat)]] w fun e w' => e = .returned (.int .i64 (cmpV a ea b eb)) ∧ Below w.heap.size w w' := by
  have la := len_qq ha
  have lb := len_qq hb
  have HLA := fun w => wideLen_any a ha w
  have HLB := fun w => wideLen_any b hb w
  have HSA := fun w => shl_num a (512 - Go.bitLen a) (by omega) ha w
  have HSB := fun w => shl_num b (512 - Go.bitLen b) (by omega) hb w
  rw [show ((512 - Go.bitLen a : Nat) : Int) = 512 - (Go.bitLen a : Int) by omega] at HSA
  rw [show ((512 - Go.bitLen b : Nat) : Int) = 512 - (Go.bitLen b : Int) by omega] at HSB
  have HCM := fun w => wideCmp_any (a * 2 ^ (512 - Go.bitLen a)) (b * 2 ^ (512 - Go.bitLen b)) (shl_top ha) (shl_top hb) w
  by_cases hz : a = 0
  · have hz2 := h0.1 hz
    subst hz
    subst hz2
    rw [cmpV_zero]
    simp only [Nat.zero_mul] at HCM
    simp only [Nat.zero_mul] at HSA HSB
    exact greater_E n1 n2 ea eb 0 0 0 0 0 false false 0 0 0 0 (fun w => top_zero n1 ea hra w) (fun w => top_zero n2 eb hrb w) rfl (by omega) (by omega) HLA HLB HSA HSB HCM w
  · have hz2 : b ≠ 0 := fun h => hz (h0.2 h)
    have T1 := fun w => top_Y n1 ea a hra (rgt_bd hra) ha hz w
    have T2 := fun w => top_Y n2 eb b hrb (rgt_bd hrb) hb hz2 w
    by_cases ht : ea + (Go.bitLen a : Int) = eb + (Go.bitLen b : Int)
    · rw [← cmpV_same a b ea eb la lb ht]
      exact greater_E n1 n2 ea eb a b _ _ _ true true (Go.bitLen a) (Go.bitLen b) _ _ T1 T2 (by unfold Hid; rw [bne_eq_false_iff_eq]; omega) la lb HLA HLB HSA HSB HCM w
    · rw [← cmpV_top a b ea eb hz hz2 ht]
      exact greater_D n1 n2 ea eb a b _ _ 0 true true 0 0 0 0 T1 T2 (by unfold Hid; rw [bne_iff_ne]; omega) w

/-- Two numbers, held against each other. -/
def cZ (n1 : Bool) (a : Nat) (ea : Int) (n2 : Bool) (b : Nat) (eb : Int) : Int := if sgnZ n1 a = sgnZ n2 b then sgnZ n1 a * cmpV a ea b eb else cmpI (sgnZ n1 a) (sgnZ n2 b)
theorem sgn_cases (n : Bool) (s : Nat) : (s = 0 ∧ sgnZ n s = 0) ∨ (s ≠ 0 ∧ n = true ∧ sgnZ n s = -1) ∨ (s ≠ 0 ∧ n = false ∧ sgnZ n s = 1) := by
  unfold sgnZ
  by_cases h : s = 0
  · exact .inl ⟨h, if_pos h⟩
  · rw [if_neg h]
    cases n
    · exact .inr (.inr ⟨h, rfl, rfl⟩)
    · exact .inr (.inl ⟨h, rfl, rfl⟩)
theorem sgn_zero {n1 n2 : Bool} {a b : Nat} (h : sgnZ n1 a = sgnZ n2 b) : a = 0 ↔ b = 0 := by
  have h1 := sgn_cases n1 a
  have h2 := sgn_cases n2 b
  omega
theorem ucmp_any (n1 n2 : Bool) (ea eb : Int) (a b : Nat) (ha : a < QQ) (hb : b < QQ) (hra : rgt ea = true) (hrb : rgt eb = true) (w : World) : Calls Tryd.prog 44 #[.agg #[.bool (n1), .int .i64 (ea), .int .u64 (dgl (a) 0 : Nat), .int .u64 (dgl (a) 1 : Nat), .int .u64 (dgl (a) 2 : Nat), .int .u64 (dgl (a) 3 : Nat), .int .u64 (dgl (a) 4 : Nat), .int .u64 (dgl (a) 5 : Nat), .int .u64 (dgl (a) 6 : Nat), .int .u64 (dgl (a) 7 : Nat)], .agg #[.bool (n2), .int .i64 (eb), .int .u64 (dgl (b) 0 : Nat), .int .u64 (dgl (b) 1 : Nat), .int .u64 (dgl (b) 2 : Nat), .int .u64 (dgl (b) 3 : Nat), .int .u64 (dgl (b) 4 : Nat), .int .u64 (dgl (b) 5 : Nat), .int .u64 (dgl (b) 6 : Nat), .int .u64 (dgl (b) 7 : Nat)]] w fun e w' => e = .returned (.int .i64 (cZ n1 a ea n2 b eb)) ∧ Below w.heap.size w w' := by
  have R1 := fun w => uRight_any n1 ea a w
  have R2 := fun w => uRight_any n2 eb b w
  rw [hra] at R1
  rw [hrb] at R2
  unfold cZ
  by_cases hs : sgnZ n1 a = sgnZ n2 b
  · rw [if_pos hs]
    have hg := cmpN_bd (vl a ea (min ea eb)) (vl b eb (min ea eb))
    have h1 := sgn_cases n1 a
    exact ucmp_S n1 n2 ea eb a b _ _ _ _ R1 R2 (fun w => usign_any n1 ea a ha w) (fun w => usign_any n2 eb b hb w) (by unfold Hid; rw [beq_iff_eq]; exact hs) (fun w => greater_any n1 n2 ea eb a b ha hb hra hrb (sgn_zero hs) w) (by
      unfold Hid cmpV
      generalize cmpN (vl a ea (min ea eb)) (vl b eb (min ea eb)) = g at hg
      rw [IntKind.wrap_i64]
      rcases h1 with ⟨_, h1⟩ | ⟨_, _, h1⟩ | ⟨_, _, h1⟩
      · rw [h1]; omega
      · rw [h1]; omega
      · rw [h1]; omega) w
  · rw [if_neg hs]
    exact ucmp_D n1 n2 ea eb a b _ _ 0 0 R1 R2 (fun w => usign_any n1 ea a ha w) (fun w => usign_any n2 eb b hb w) (by unfold Hid; rw [beq_eq_false_iff_ne]; exact hs) w
theorem ucmp_no (n1 n2 : Bool) (ea eb : Int) (a b : Nat) (h : (rgt ea && rgt eb) = false) (w : World) : Calls Tryd.prog 44 #[.agg #[.bool (n1), .int .i64 (ea), .int .u64 (dgl (a) 0 : Nat), .int .u64 (dgl (a) 1 : Nat), .int .u64 (dgl (a) 2 : Nat), .int .u64 (dgl (a) 3 : Nat), .int .u64 (dgl (a) 4 : Nat), .int .u64 (dgl (a) 5 : Nat), .int .u64 (dgl (a) 6 : Nat), .int .u64 (dgl (a) 7 : Nat)], .agg #[.bool (n2), .int .i64 (eb), .int .u64 (dgl (b) 0 : Nat), .int .u64 (dgl (b) 1 : Nat), .int .u64 (dgl (b) 2 : Nat), .int .u64 (dgl (b) 3 : Nat), .int .u64 (dgl (b) 4 : Nat), .int .u64 (dgl (b) 5 : Nat), .int .u64 (dgl (b) 6 : Nat), .int .u64 (dgl (b) 7 : Nat)]] w fun e w' => e = .returned (.int .i64 0) ∧ Below w.heap.size w w' := by
  have R1 := fun w => uRight_any n1 ea a w
  have R2 := fun w => uRight_any n2 eb b w
  by_cases hr : rgt ea = true
  · rw [hr, Bool.true_and] at h
    rw [hr] at R1
    rw [h] at R2
    exact ucmp_N2 n1 n2 ea eb a b 0 0 0 0 R1 R2 w
  · have hr2 : rgt ea = false := by simpa using hr
    rw [hr2] at R1
    exact ucmp_N1 n1 n2 ea eb a b 0 0 0 0 R1 w

set_option maxHeartbeats 2000000 in
theorem same_N1 (n1 n2 : Bool) (ea eb : Int) (a b : Nat) (ec ed : Int) (c d : Nat) (r : Bool)
    (HR1 : Hid (∀ w, Calls Tryd.prog 42 #[.agg #[.bool (n1), .int .i64 (ea), .int .u64 (dgl (a) 0 : Nat), .int .u64 (dgl (a) 1 : Nat), .int .u64 (dgl (a) 2 : Nat), .int .u64 (dgl (a) 3 : Nat), .int .u64 (dgl (a) 4 : Nat), .int .u64 (dgl (a) 5 : Nat), .int .u64 (dgl (a) 6 : Nat), .int .u64 (dgl (a) 7 : Nat)]] w fun e w' => e = .returned (.bool false) ∧ Below w.heap.size w w')) (w : World) :
    Calls Tryd.prog 45 #[.agg #[.bool (n1), .int .i64 (ea), .int .u64 (dgl (a) 0 : Nat), .int .u64 (dgl (a) 1 : Nat), .int .u64 (dgl (a) 2 : Nat), .int .u64 (dgl (a) 3 : Nat), .int .u64 (dgl (a) 4 : Nat), .int .u64 (dgl (a) 5 : Nat), .int .u64 (dgl (a) 6 : Nat), .int .u64 (dgl (a) 7 : Nat)], .agg #[.bool (n2), .int .i64 (eb), .int .u64 (dgl (b) 0 : Nat), .int .u64 (dgl (b) 1 : Nat), .int .u64 (dgl (b) 2 : Nat), .int .u64 (dgl (b) 3 : Nat), .int .u64 (dgl (b) 4 : Nat), .int .u64 (dgl (b) 5 : Nat), .int .u64 (dgl (b) 6 : Nat), .int .u64 (dgl (b) 7 : Nat)]] w fun e w' => e = .returned (.bool false) ∧ Below w.heap.size w w' := by
  have HS := hide (grSt_start n1 n2 ea eb a b w)
  go_enter Tryd.func45, Tryd.ntmps45
  go_upto_region 1 with fail
  refine wp_gen (fun W => GrSt n1 n2 ea eb a b w W) HS.out ?_
  clear HS
  rintro W1 h1
  refine wp_region_grow 14 [(5, .val (.agg #[.bool (n1), .int .i64 (ea), .int .u64 (dgl (a) 0 : Nat), .int .u64 (dgl (a) 1 : Nat), .int .u64 (dgl (a) 2 : Nat), .int .u64 (dgl (a) 3 : Nat), .int .u64 (dgl (a) 4 : Nat), .int .u64 (dgl (a) 5 : Nat), .int .u64 (dgl (a) 6 : Nat), .int .u64 (dgl (a) 7 : Nat)])), (6, .val (.bool false)), (7, .val (.bool false)), (8, .val (undef)), (9, .val (undef)), (10, .val (.bool false)), (11, .val (.bool false)), (12, .val (undef)), (13, .val (undef)), (14, .val (undef)), (15, .val (undef)), (16, .val (undef)), (17, .val (.bool false)), (4, .val (.bool false))]
    (fun W => GrSt n1 n2 ea eb a b w W) mixedOk (by kernel_rfl) (by kernel_rfl) (h1.below (Below.refl _ _).drew) (fun W W' h hb => h.below hb) ?_ ?_
  · refine gSt (gStep_run rfl ?_) ?_
    · intro ρ W hC hc hf hL
      have e2 : ρ (.tmp 2) = .pointer (some ⟨w.heap.size, 0, none⟩) := hL 2 (by decide +kernel)
      have an := hC.a.n
      have ae := hC.a.e
      have a0 := hC.a.x0
      have a1 := hC.a.x1
      have a2 := hC.a.x2
      have a3 := hC.a.x3
      have a4 := hC.a.x4
      have a5 := hC.a.x5
      have a6 := hC.a.x6
      have a7 := hC.a.x7
      simp [go_sem, hc, hf, e2, an, ae, a0, a1, a2, a3, a4, a5, a6, a7]
      exact ⟨Below.refl _ _, rfl⟩
    refine gSt (gStep_run rfl ?_) ?_
    · intro ρ W hC hc hf hL
      have e5 : ρ (.tmp 5) = .agg #[.bool (n1), .int .i64 (ea), .int .u64 (dgl (a) 0 : Nat), .int .u64 (dgl (a) 1 : Nat), .int .u64 (dgl (a) 2 : Nat), .int .u64 (dgl (a) 3 : Nat), .int .u64 (dgl (a) 4 : Nat), .int .u64 (dgl (a) 5 : Nat), .int .u64 (dgl (a) 6 : Nat), .int .u64 (dgl (a) 7 : Nat)] := hL 5 (by decide +kernel)
      simp [go_sem, hc, hf, e5]
      refine (HR1.out W).mono ?_
      rintro e w' ⟨rfl, hb⟩
      exact ⟨_, rfl, by first | exact hb | (subst hb; exact Below.refl _ _), rfl⟩
    refine gSt (gStep_run rfl (gRun_move 6 7 (.inl rfl) rfl (by decide +kernel) (fun v w h => h))) ?_
    refine gSt (gStep_off 2 7 true rfl rfl (by decide +kernel) (fun v w h => h) (fun w => rfl)) ?_
    refine gSt (gStep_off 2 7 true rfl rfl (by decide +kernel) (fun v w h => h) (fun w => rfl)) ?_
    refine gSt (gStep_run rfl (gRun_pickF 7 10 _ _ rfl rfl (by decide +kernel) (fun v w h => h) (fun w => rfl))) ?_
    refine gSt (gStep_run rfl (gRun_move 10 11 (.inl rfl) rfl (by decide +kernel) (fun v w h => h))) ?_
    refine gSt (gStep_off 6 11 true rfl rfl (by decide +kernel) (fun v w h => h) (fun w => rfl)) ?_
    refine gSt (gStep_off 6 11 true rfl rfl (by decide +kernel) (fun v w h => h) (fun w => rfl)) ?_
    refine gSt (gStep_off 6 11 true rfl rfl (by decide +kernel) (fun v w h => h) (fun w => rfl)) ?_
    refine gSt (gStep_off 6 11 true rfl rfl (by decide +kernel) (fun v w h => h) (fun w => rfl)) ?_
    refine gSt (gStep_off 6 11 true rfl rfl (by decide +kernel) (fun v w h => h) (fun w => rfl)) ?_
    refine gSt (gStep_run rfl (gRun_pickF 11 17 _ _ rfl rfl (by decide +kernel) (fun v w h => h) (fun w => rfl))) ?_
    refine gSt (gStep_run rfl (gRun_move 17 4 (.inr rfl) rfl (by decide +kernel) (fun v w h => h))) ?_
    exact gSt0
  · intro W hC
    refine gFi 5 rfl ?_
    rintro _ rfl
    refine gFi 6 rfl ?_
    rintro _ rfl
    refine gFi 7 rfl ?_
    rintro _ rfl
    refine gFi 8 rfl ?_
    rintro _ rfl
    refine gFi 9 rfl ?_
    rintro _ rfl
    refine gFi 10 rfl ?_
    rintro _ rfl
    refine gFi 11 rfl ?_
    rintro _ rfl
    refine gFi 12 rfl ?_
    rintro _ rfl
    refine gFi 13 rfl ?_
    rintro _ rfl
    refine gFi 14 rfl ?_
    rintro _ rfl
    refine gFi 15 rfl ?_
    rintro _ rfl
    refine gFi 16 rfl ?_
    rintro _ rfl
    refine gFi 17 rfl ?_
    rintro _ rfl
    refine gFi 4 rfl ?_
    rintro _ rfl
    refine gFi0 ?_
    simp only [List.drop_succ_cons, List.drop_zero, Act.put, List.setIfInBounds_toArray, List.set_cons_succ, List.set_cons_zero]
    have HB := hide hC.bel
    clear hC h1
    go_wp2
    go_ret
    exact ⟨rfl, HB.out⟩

set_option maxHeartbeats 2000000 in
theorem same_N2 (n1 n2 : Bool) (ea eb : Int) (a b : Nat) (ec ed : Int) (c d : Nat) (r : Bool)
    (HR1 : Hid (∀ w, Calls Tryd.prog 42 #[.agg #[.bool (n1), .int .i64 (ea), .int .u64 (dgl (a) 0 : Nat), .int .u64 (dgl (a) 1 : Nat), .int .u64 (dgl (a) 2 : Nat), .int .u64 (dgl (a) 3 : Nat), .int .u64 (dgl (a) 4 : Nat), .int .u64 (dgl (a) 5 : Nat), .int .u64 (dgl (a) 6 : Nat), .int .u64 (dgl (a) 7 : Nat)]] w fun e w' => e = .returned (.bool true) ∧ Below w.heap.size w w'))
    (HR2 : Hid (∀ w, Calls Tryd.prog 42 #[.agg #[.bool (n2), .int .i64 (eb), .int .u64 (dgl (b) 0 : Nat), .int .u64 (dgl (b) 1 : Nat), .int .u64 (dgl (b) 2 : Nat), .int .u64 (dgl (b) 3 : Nat), .int .u64 (dgl (b) 4 : Nat), .int .u64 (dgl (b) 5 : Nat), .int .u64 (dgl (b) 6 : Nat), .int .u64 (dgl (b) 7 : Nat)]] w fun e w' => e = .returned (.bool false) ∧ Below w.heap.size w w')) (w : World) :
    Calls Tryd.prog 45 #[.agg #[.bool (n1), .int .i64 (ea), .int .u64 (dgl (a) 0 : Nat), .int .u64 (dgl (a) 1 : Nat), .int .u64 (dgl (a) 2 : Nat), .int .u64 (dgl (a) 3 : Nat), .int .u64 (dgl (a) 4 : Nat), .int .u64 (dgl (a) 5 : Nat), .int .u64 (dgl (a) 6 : Nat), .int .u64 (dgl (a) 7 : Nat)], .agg #[.bool (n2), .int .i64 (eb), .int .u64 (dgl (b) 0 : Nat), .int .u64 (dgl (b) 1 : Nat), .int .u64 (dgl (b) 2 : Nat), .int .u64 (dgl (b) 3 : Nat), .int .u64 (dgl (b) 4 : Nat), .int .u64 (dgl (b) 5 : Nat), .int .u64 (dgl (b) 6 : Nat), .int .u64 (dgl (b) 7 : Nat)]] w fun e w' => e = .returned (.bool false) ∧ Below w.heap.size w w' := by
  have HS := hide (grSt_start n1 n2 ea eb a b w)
  go_enter Tryd.func45, Tryd.ntmps45
  go_upto_region 1 with fail
  refine wp_gen (fun W => GrSt n1 n2 ea eb a b w W) HS.out ?_
  clear HS
  rintro W1 h1
  refine wp_region_grow 14 [(5, .val (.agg #[.bool (n1), .int .i64 (ea), .int .u64 (dgl (a) 0 : Nat), .int .u64 (dgl (a) 1 : Nat), .int .u64 (dgl (a) 2 : Nat), .int .u64 (dgl (a) 3 : Nat), .int .u64 (dgl (a) 4 : Nat), .int .u64 (dgl (a) 5 : Nat), .int .u64 (dgl (a) 6 : Nat), .int .u64 (dgl (a) 7 : Nat)])), (6, .val (.bool true)), (7, .val (.bool true)), (8, .val (.agg #[.bool (n2), .int .i64 (eb), .int .u64 (dgl (b) 0 : Nat), .int .u64 (dgl (b) 1 : Nat), .int .u64 (dgl (b) 2 : Nat), .int .u64 (dgl (b) 3 : Nat), .int .u64 (dgl (b) 4 : Nat), .int .u64 (dgl (b) 5 : Nat), .int .u64 (dgl (b) 6 : Nat), .int .u64 (dgl (b) 7 : Nat)])), (9, .val (.bool false)), (10, .val (.bool false)), (11, .val (.bool false)), (12, .val (undef)), (13, .val (undef)), (14, .val (undef)), (15, .val (undef)), (16, .val (undef)), (17, .val (.bool false)), (4, .val (.bool false))]
    (fun W => GrSt n1 n2 ea eb a b w W) mixedOk (by kernel_rfl) (by kernel_rfl) (h1.below (Below.refl _ _).drew) (fun W W' h hb => h.below hb) ?_ ?_
  · refine gSt (gStep_run rfl ?_) ?_
    · intro ρ W hC hc hf hL
      have e2 : ρ (.tmp 2) = .pointer (some ⟨w.heap.size, 0, none⟩) := hL 2 (by decide +kernel)
      have an := hC.a.n
      have ae := hC.a.e
      have a0 := hC.a.x0
      have a1 := hC.a.x1
      have a2 := hC.a.x2
      have a3 := hC.a.x3
      have a4 := hC.a.x4
      have a5 := hC.a.x5
      have a6 := hC.a.x6
      have a7 := hC.a.x7
      simp [go_sem, hc, hf, e2, an, ae, a0, a1, a2, a3, a4, a5, a6, a7]
      exact ⟨Below.refl _ _, rfl⟩
    refine gSt (gStep_run rfl ?_) ?_
    · intro ρ W hC hc hf hL
      have e5 : ρ (.tmp 5) = .agg #[.bool (n1), .int .i64 (ea), .int .u64 (dgl (a) 0 : Nat), .int .u64 (dgl (a) 1 : Nat), .int .u64 (dgl (a) 2 : Nat), .int .u64 (dgl (a) 3 : Nat), .int .u64 (dgl (a) 4 : Nat), .int .u64 (dgl (a) 5 : Nat), .int .u64 (dgl (a) 6 : Nat), .int .u64 (dgl (a) 7 : Nat)] := hL 5 (by decide +kernel)
      simp [go_sem, hc, hf, e5]
      refine (HR1.out W).mono ?_
      rintro e w' ⟨rfl, hb⟩
      exact ⟨_, rfl, by first | exact hb | (subst hb; exact Below.refl _ _), rfl⟩
    refine gSt (gStep_run rfl (gRun_move 6 7 (.inl rfl) rfl (by decide +kernel) (fun v w h => h))) ?_
    refine gSt (gStep_on 2 7 true rfl rfl (by decide +kernel) (fun v w h => h) ?_) ?_
    · intro ρ W hC hc hf hL
      have e3 : ρ (.tmp 3) = .pointer (some ⟨w.heap.size + 1, 0, none⟩) := hL 3 (by decide +kernel)
      have bn := hC.b.n
      have be := hC.b.e
      have b0 := hC.b.x0
      have b1 := hC.b.x1
      have b2 := hC.b.x2
      have b3 := hC.b.x3
      have b4 := hC.b.x4
      have b5 := hC.b.x5
      have b6 := hC.b.x6
      have b7 := hC.b.x7
      simp [go_sem, hc, hf, e3, bn, be, b0, b1, b2, b3, b4, b5, b6, b7]
      exact ⟨Below.refl _ _, rfl⟩
    refine gSt (gStep_on 2 7 true rfl rfl (by decide +kernel) (fun v w h => h) ?_) ?_
    · intro ρ W hC hc hf hL
      have e8 : ρ (.tmp 8) = .agg #[.bool (n2), .int .i64 (eb), .int .u64 (dgl (b) 0 : Nat), .int .u64 (dgl (b) 1 : Nat), .int .u64 (dgl (b) 2 : Nat), .int .u64 (dgl (b) 3 : Nat), .int .u64 (dgl (b) 4 : Nat), .int .u64 (dgl (b) 5 : Nat), .int .u64 (dgl (b) 6 : Nat), .int .u64 (dgl (b) 7 : Nat)] := hL 8 (by decide +kernel)
      simp [go_sem, hc, hf, e8]
      refine (HR2.out W).mono ?_
      rintro e w' ⟨rfl, hb⟩
      exact ⟨_, rfl, by first | exact hb | (subst hb; exact Below.refl _ _), rfl⟩
    refine gSt (gStep_run rfl (gRun_pickT 7 9 10 _ rfl rfl (by decide +kernel) (by decide +kernel) (fun v w h => h) (fun v w h => h))) ?_
    refine gSt (gStep_run rfl (gRun_move 10 11 (.inl rfl) rfl (by decide +kernel) (fun v w h => h))) ?_
    refine gSt (gStep_off 6 11 true rfl rfl (by decide +kernel) (fun v w h => h) (fun w => rfl)) ?_
    refine gSt (gStep_off 6 11 true rfl rfl (by decide +kernel) (fun v w h => h) (fun w => rfl)) ?_
    refine gSt (gStep_off 6 11 true rfl rfl (by decide +kernel) (fun v w h => h) (fun w => rfl)) ?_
    refine gSt (gStep_off 6 11 true rfl rfl (by decide +kernel) (fun v w h => h) (fun w => rfl)) ?_
    refine gSt (gStep_off 6 11 true rfl rfl (by decide +kernel) (fun v w h => h) (fun w => rfl)) ?_
    refine gSt (gStep_run rfl (gRun_pickF 11 17 _ _ rfl rfl (by decide +kernel) (fun v w h => h) (fun w => rfl))) ?_
    refine gSt (gStep_run rfl (gRun_move 17 4 (.inr rfl) rfl (by decide +kernel) (fun v w h => h))) ?_
    exact gSt0
  · intro W hC
    refine gFi 5 rfl ?_
    rintro _ rfl
    refine gFi 6 rfl ?_
    rintro _ rfl
    refine gFi 7 rfl ?_
    rintro _ rfl
    refine gFi 8 rfl ?_
    rintro _ rfl
    refine gFi 9 rfl ?_
    rintro _ rfl
    refine gFi 10 rfl ?_
    rintro _ rfl
    refine gFi 11 rfl ?_
    rintro _ rfl
    refine gFi 12 rfl ?_
    rintro _ rfl
    refine gFi 13 rfl ?_
    rintro _ rfl
    refine gFi 14 rfl ?_
    rintro _ rfl
    refine gFi 15 rfl ?_
    rintro _ rfl
    refine gFi 16 rfl ?_
    rintro _ rfl
    refine gFi 17 rfl ?_
    rintro _ rfl
    refine gFi 4 rfl ?_
    rintro _ rfl
    refine gFi0 ?_
    simp only [List.drop_succ_cons, List.drop_zero, Act.put, List.setIfInBounds_toArray, List.set_cons_succ, List.set_cons_zero]
    have HB := hide hC.bel
    clear hC h1
    go_wp2
    go_ret
    exact ⟨rfl, HB.out⟩

set_option maxHeartbeats 2000000 in
theorem same_Y (n1 n2 : Bool) (ea eb : Int) (a b : Nat) (ec ed : Int) (c d : Nat) (r : Bool)
    (HR1 : Hid (∀ w, Calls Tryd.prog 42 #[.agg #[.bool (n1), .int .i64 (ea), .int .u64 (dgl (a) 0 : Nat), .int .u64 (dgl (a) 1 : Nat), .int .u64 (dgl (a) 2 : Nat), .int .u64 (dgl (a) 3 : Nat), .int .u64 (dgl (a) 4 : Nat), .int .u64 (dgl (a) 5 : Nat), .int .u64 (dgl (a) 6 : Nat), .int .u64 (dgl (a) 7 : Nat)]] w fun e w' => e = .returned (.bool true) ∧ Below w.heap.size w w'))
    (HR2 : Hid (∀ w, Calls Tryd.prog 42 #[.agg #[.bool (n2), .int .i64 (eb), .int .u64 (dgl (b) 0 : Nat), .int .u64 (dgl (b) 1 : Nat), .int .u64 (dgl (b) 2 : Nat), .int .u64 (dgl (b) 3 : Nat), .int .u64 (dgl (b) 4 : Nat), .int .u64 (dgl (b) 5 : Nat), .int .u64 (dgl (b) 6 : Nat), .int .u64 (dgl (b) 7 : Nat)]] w fun e w' => e = .returned (.bool true) ∧ Below w.heap.size w w'))
    (HS1 : Hid (∀ w, Calls Tryd.prog 47 #[.agg #[.bool (n1), .int .i64 (ea), .int .u64 (dgl (a) 0 : Nat), .int .u64 (dgl (a) 1 : Nat), .int .u64 (dgl (a) 2 : Nat), .int .u64 (dgl (a) 3 : Nat), .int .u64 (dgl (a) 4 : Nat), .int .u64 (dgl (a) 5 : Nat), .int .u64 (dgl (a) 6 : Nat), .int .u64 (dgl (a) 7 : Nat)]] w fun e w' => e = .returned (.agg #[.bool (n1), .int .i64 (ec), .int .u64 (dgl (c) 0 : Nat), .int .u64 (dgl (c) 1 : Nat), .int .u64 (dgl (c) 2 : Nat), .int .u64 (dgl (c) 3 : Nat), .int .u64 (dgl (c) 4 : Nat), .int .u64 (dgl (c) 5 : Nat), .int .u64 (dgl (c) 6 : Nat), .int .u64 (dgl (c) 7 : Nat)]) ∧ Below w.heap.size w w'))
    (HS2 : Hid (∀ w, Calls Tryd.prog 47 #[.agg #[.bool (n2), .int .i64 (eb), .int .u64 (dgl (b) 0 : Nat), .int .u64 (dgl (b) 1 : Nat), .int .u64 (dgl (b) 2 : Nat), .int .u64 (dgl (b) 3 : Nat), .int .u64 (dgl (b) 4 : Nat), .int .u64 (dgl (b) 5 : Nat), .int .u64 (dgl (b) 6 : Nat), .int .u64 (dgl (b) 7 : Nat)]] w fun e w' => e = .returned (.agg #[.bool (n2), .int .i64 (ed), .int .u64 (dgl (d) 0 : Nat), .int .u64 (dgl (d) 1 : Nat), .int .u64 (dgl (d) 2 : Nat), .int .u64 (dgl (d) 3 : Nat), .int .u64 (dgl (d) 4 : Nat), .int .u64 (dgl (d) 5 : Nat), .int .u64 (dgl (d) 6 : Nat), .int .u64 (dgl (d) 7 : Nat)]) ∧ Below w.heap.size w w'))
    (HEQ : Hid (∀ w, (Op.equalIn 10000 49 (.agg #[.bool (n1), .int .i64 (ec), .int .u64 (dgl (c) 0 : Nat), .int .u64 (dgl (c) 1 : Nat), .int .u64 (dgl (c) 2 : Nat), .int .u64 (dgl (c) 3 : Nat), .int .u64 (dgl (c) 4 : Nat), .int .u64 (dgl (c) 5 : Nat), .int .u64 (dgl (c) 6 : Nat), .int .u64 (dgl (c) 7 : Nat)]) (.agg #[.bool (n2), .int .i64 (ed), .int .u64 (dgl (d) 0 : Nat), .int .u64 (dgl (d) 1 : Nat), .int .u64 (dgl (d) 2 : Nat), .int .u64 (dgl (d) 3 : Nat), .int .u64 (dgl (d) 4 : Nat), .int .u64 (dgl (d) 5 : Nat), .int .u64 (dgl (d) 6 : Nat), .int .u64 (dgl (d) 7 : Nat)])).run Tryd.prog w = .ok r w)) (w : World) :
    Calls Tryd.prog 45 #[.agg #[.bool (n1), .int .i64 (ea), .int .u64 (dgl (a) 0 : Nat), .int .u64 (dgl (a) 1 : Nat), .int .u64 (dgl (a) 2 : Nat), .int .u64 (dgl (a) 3 : Nat), .int .u64 (dgl (a) 4 : Nat), .int .u64 (dgl (a) 5 : Nat), .int .u64 (dgl (a) 6 : Nat), .int .u64 (dgl (a) 7 : Nat)], .agg #[.bool (n2), .int .i64 (eb), .int .u64 (dgl (b) 0 : Nat), .int .u64 (dgl (b) 1 : Nat), .int .u64 (dgl (b) 2 : Nat), .int .u64 (dgl (b) 3 : Nat), .int .u64 (dgl (b) 4 : Nat), .int .u64 (dgl (b) 5 : Nat), .int .u64 (dgl (b) 6 : Nat), .int .u64 (dgl (b) 7 : Nat)]] w fun e w' => e = .returned (.bool r) ∧ Below w.heap.size w w' := by
  have HS := hide (grSt_start n1 n2 ea eb a b w)
  go_enter Tryd.func45, Tryd.ntmps45
  go_upto_region 1 with fail
  refine wp_gen (fun W => GrSt n1 n2 ea eb a b w W) HS.out ?_
  clear HS
  rintro W1 h1
  refine wp_region_grow 14 [(5, .val (.agg #[.bool (n1), .int .i64 (ea), .int .u64 (dgl (a) 0 : Nat), .int .u64 (dgl (a) 1 : Nat), .int .u64 (dgl (a) 2 : Nat), .int .u64 (dgl (a) 3 : Nat), .int .u64 (dgl (a) 4 : Nat), .int .u64 (dgl (a) 5 : Nat), .int .u64 (dgl (a) 6 : Nat), .int .u64 (dgl (a) 7 : Nat)])), (6, .val (.bool true)), (7, .val (.bool true)), (8, .val (.agg #[.bool (n2), .int .i64 (eb), .int .u64 (dgl (b) 0 : Nat), .int .u64 (dgl (b) 1 : Nat), .int .u64 (dgl (b) 2 : Nat), .int .u64 (dgl (b) 3 : Nat), .int .u64 (dgl (b) 4 : Nat), .int .u64 (dgl (b) 5 : Nat), .int .u64 (dgl (b) 6 : Nat), .int .u64 (dgl (b) 7 : Nat)])), (9, .val (.bool true)), (10, .val (.bool true)), (11, .val (.bool true)), (12, .val (.agg #[.bool (n1), .int .i64 (ea), .int .u64 (dgl (a) 0 : Nat), .int .u64 (dgl (a) 1 : Nat), .int .u64 (dgl (a) 2 : Nat), .int .u64 (dgl (a) 3 : Nat), .int .u64 (dgl (a) 4 : Nat), .int .u64 (dgl (a) 5 : Nat), .int .u64 (dgl (a) 6 : Nat), .int .u64 (dgl (a) 7 : Nat)])), (13, .val (.agg #[.bool (n1), .int .i64 (ec), .int .u64 (dgl (c) 0 : Nat), .int .u64 (dgl (c) 1 : Nat), .int .u64 (dgl (c) 2 : Nat), .int .u64 (dgl (c) 3 : Nat), .int .u64 (dgl (c) 4 : Nat), .int .u64 (dgl (c) 5 : Nat), .int .u64 (dgl (c) 6 : Nat), .int .u64 (dgl (c) 7 : Nat)])), (14, .val (.agg #[.bool (n2), .int .i64 (eb), .int .u64 (dgl (b) 0 : Nat), .int .u64 (dgl (b) 1 : Nat), .int .u64 (dgl (b) 2 : Nat), .int .u64 (dgl (b) 3 : Nat), .int .u64 (dgl (b) 4 : Nat), .int .u64 (dgl (b) 5 : Nat), .int .u64 (dgl (b) 6 : Nat), .int .u64 (dgl (b) 7 : Nat)])), (15, .val (.agg #[.bool (n2), .int .i64 (ed), .int .u64 (dgl (d) 0 : Nat), .int .u64 (dgl (d) 1 : Nat), .int .u64 (dgl (d) 2 : Nat), .int .u64 (dgl (d) 3 : Nat), .int .u64 (dgl (d) 4 : Nat), .int .u64 (dgl (d) 5 : Nat), .int .u64 (dgl (d) 6 : Nat), .int .u64 (dgl (d) 7 : Nat)])), (16, .val (.bool r)), (17, .val (.bool r)), (4, .val (.bool r))]
    (fun W => GrSt n1 n2 ea eb a b w W) mixedOk (by kernel_rfl) (by kernel_rfl) (h1.below (Below.refl _ _).drew) (fun W W' h hb => h.below hb) ?_ ?_
  · refine gSt (gStep_run rfl ?_) ?_
    · intro ρ W hC hc hf hL
      have e2 : ρ (.tmp 2) = .pointer (some ⟨w.heap.size, 0, none⟩) := hL 2 (by decide +kernel)
      have an := hC.a.n
      have ae := hC.a.e
      have a0 := hC.a.x0
      have a1 := hC.a.x1
      have a2 := hC.a.x2
      have a3 := hC.a.x3
      have a4 := hC.a.x4
      have a5 := hC.a.x5
      have a6 := hC.a.x6
      have a7 := hC.a.x7
      simp [go_sem, hc, hf, e2, an, ae, a0, a1, a2, a3, a4, a5, a6, a7]
      exact ⟨Below.refl _ _, rfl⟩
    refine gSt (gStep_run rfl ?_) ?_
    · intro ρ W hC hc hf hL
      have e5 : ρ (.tmp 5) = .agg #[.bool (n1), .int .i64 (ea), .int .u64 (dgl (a) 0 : Nat), .int .u64 (dgl (a) 1 : Nat), .int .u64 (dgl (a) 2 : Nat), .int .u64 (dgl (a) 3 : Nat), .int .u64 (dgl (a) 4 : Nat), .int .u64 (dgl (a) 5 : Nat), .int .u64 (dgl (a) 6 : Nat), .int .u64 (dgl (a) 7 : Nat)] := hL 5 (by decide +kernel)
      simp [go_sem, hc, hf, e5]
      refine (HR1.out W).mono ?_
      rintro e w' ⟨rfl, hb⟩
      exact ⟨_, rfl, by first | exact hb | (subst hb; exact Below.refl _ _), rfl⟩
    refine gSt (gStep_run rfl (gRun_move 6 7 (.inl rfl) rfl (by decide +kernel) (fun v w h => h))) ?_
    refine gSt (gStep_on 2 7 true rfl rfl (by decide +kernel) (fun v w h => h) ?_) ?_
    · intro ρ W hC hc hf hL
      have e3 : ρ (.tmp 3) = .pointer (some ⟨w.heap.size + 1, 0, none⟩) := hL 3 (by decide +kernel)
      have bn := hC.b.n
      have be := hC.b.e
      have b0 := hC.b.x0
      have b1 := hC.b.x1
      have b2 := hC.b.x2
      have b3 := hC.b.x3
      have b4 := hC.b.x4
      have b5 := hC.b.x5
      have b6 := hC.b.x6
      have b7 := hC.b.x7
      simp [go_sem, hc, hf, e3, bn, be, b0, b1, b2, b3, b4, b5, b6, b7]
      exact ⟨Below.refl _ _, rfl⟩
    refine gSt (gStep_on 2 7 true rfl rfl (by decide +kernel) (fun v w h => h) ?_) ?_
    · intro ρ W hC hc hf hL
      have e8 : ρ (.tmp 8) = .agg #[.bool (n2), .int .i64 (eb), .int .u64 (dgl (b) 0 : Nat), .int .u64 (dgl (b) 1 : Nat), .int .u64 (dgl (b) 2 : Nat), .int .u64 (dgl (b) 3 : Nat), .int .u64 (dgl (b) 4 : Nat), .int .u64 (dgl (b) 5 : Nat), .int .u64 (dgl (b) 6 : Nat), .int .u64 (dgl (b) 7 : Nat)] := hL 8 (by decide +kernel)
      simp [go_sem, hc, hf, e8]
      refine (HR2.out W).mono ?_
      rintro e w' ⟨rfl, hb⟩
      exact ⟨_, rfl, by first | exact hb | (subst hb; exact Below.refl _ _), rfl⟩
    refine gSt (gStep_run rfl (gRun_pickT 7 9 10 _ rfl rfl (by decide +kernel) (by decide +kernel) (fun v w h => h) (fun v w h => h))) ?_
    refine gSt (gStep_run rfl (gRun_move 10 11 (.inl rfl) rfl (by decide +kernel) (fun v w h => h))) ?_
    refine gSt (gStep_on 6 11 true rfl rfl (by decide +kernel) (fun v w h => h) ?_) ?_
    · intro ρ W hC hc hf hL
      have e2 : ρ (.tmp 2) = .pointer (some ⟨w.heap.size, 0, none⟩) := hL 2 (by decide +kernel)
      have an := hC.a.n
      have ae := hC.a.e
      have a0 := hC.a.x0
      have a1 := hC.a.x1
      have a2 := hC.a.x2
      have a3 := hC.a.x3
      have a4 := hC.a.x4
      have a5 := hC.a.x5
      have a6 := hC.a.x6
      have a7 := hC.a.x7
      simp [go_sem, hc, hf, e2, an, ae, a0, a1, a2, a3, a4, a5, a6, a7]
      exact ⟨Below.refl _ _, rfl⟩
    refine gSt (gStep_on 6 11 true rfl rfl (by decide +kernel) (fun v w h => h) ?_) ?_
    · intro ρ W hC hc hf hL
      have e12 : ρ (.tmp 12) = .agg #[.bool (n1), .int .i64 (ea), .int .u64 (dgl (a) 0 : Nat), .int .u64 (dgl (a) 1 : Nat), .int .u64 (dgl (a) 2 : Nat), .int .u64 (dgl (a) 3 : Nat), .int .u64 (dgl (a) 4 : Nat), .int .u64 (dgl (a) 5 : Nat), .int .u64 (dgl (a) 6 : Nat), .int .u64 (dgl (a) 7 : Nat)] := hL 12 (by decide +kernel)
      simp [go_sem, hc, hf, e12]
      refine (HS1.out W).mono ?_
      rintro e w' ⟨rfl, hb⟩
      exact ⟨_, rfl, by first | exact hb | (subst hb; exact Below.refl _ _), rfl⟩
    refine gSt (gStep_on 6 11 true rfl rfl (by decide +kernel) (fun v w h => h) ?_) ?_
    · intro ρ W hC hc hf hL
      have e3 : ρ (.tmp 3) = .pointer (some ⟨w.heap.size + 1, 0, none⟩) := hL 3 (by decide +kernel)
      have bn := hC.b.n
      have be := hC.b.e
      have b0 := hC.b.x0
      have b1 := hC.b.x1
      have b2 := hC.b.x2
      have b3 := hC.b.x3
      have b4 := hC.b.x4
      have b5 := hC.b.x5
      have b6 := hC.b.x6
      have b7 := hC.b.x7
      simp [go_sem, hc, hf, e3, bn, be, b0, b1, b2, b3, b4, b5, b6, b7]
      exact ⟨Below.refl _ _, rfl⟩
    refine gSt (gStep_on 6 11 true rfl rfl (by decide +kernel) (fun v w h => h) ?_) ?_
    · intro ρ W hC hc hf hL
      have e14 : ρ (.tmp 14) = .agg #[.bool (n2), .int .i64 (eb), .int .u64 (dgl (b) 0 : Nat), .int .u64 (dgl (b) 1 : Nat), .int .u64 (dgl (b) 2 : Nat), .int .u64 (dgl (b) 3 : Nat), .int .u64 (dgl (b) 4 : Nat), .int .u64 (dgl (b) 5 : Nat), .int .u64 (dgl (b) 6 : Nat), .int .u64 (dgl (b) 7 : Nat)] := hL 14 (by decide +kernel)
      simp [go_sem, hc, hf, e14]
      refine (HS2.out W).mono ?_
      rintro e w' ⟨rfl, hb⟩
      exact ⟨_, rfl, by first | exact hb | (subst hb; exact Below.refl _ _), rfl⟩
    refine gSt (gStep_on 6 11 true rfl rfl (by decide +kernel) (fun v w h => h) ?_) ?_
    · intro ρ W hC hc hf hL
      have e13 : ρ (.tmp 13) = .agg #[.bool (n1), .int .i64 (ec), .int .u64 (dgl (c) 0 : Nat), .int .u64 (dgl (c) 1 : Nat), .int .u64 (dgl (c) 2 : Nat), .int .u64 (dgl (c) 3 : Nat), .int .u64 (dgl (c) 4 : Nat), .int .u64 (dgl (c) 5 : Nat), .int .u64 (dgl (c) 6 : Nat), .int .u64 (dgl (c) 7 : Nat)] := hL 13 (by decide +kernel)
      have e15 : ρ (.tmp 15) = .agg #[.bool (n2), .int .i64 (ed), .int .u64 (dgl (d) 0 : Nat), .int .u64 (dgl (d) 1 : Nat), .int .u64 (dgl (d) 2 : Nat), .int .u64 (dgl (d) 3 : Nat), .int .u64 (dgl (d) 4 : Nat), .int .u64 (dgl (d) 5 : Nat), .int .u64 (dgl (d) 6 : Nat), .int .u64 (dgl (d) 7 : Nat)] := hL 15 (by decide +kernel)
      have l0 := HEQ.out
      simp [go_sem, hc, hf, e13, e15, l0]
      exact ⟨Below.refl _ _, rfl⟩
    refine gSt (gStep_run rfl (gRun_pickT 11 16 17 _ rfl rfl (by decide +kernel) (by decide +kernel) (fun v w h => h) (fun v w h => h))) ?_
    refine gSt (gStep_run rfl (gRun_move 17 4 (.inr rfl) rfl (by decide +kernel) (fun v w h => h))) ?_
    exact gSt0
  · intro W hC
    refine gFi 5 rfl ?_
    rintro _ rfl
    refine gFi 6 rfl ?_
    rintro _ rfl
    refine gFi 7 rfl ?_
    rintro _ rfl
    refine gFi 8 rfl ?_
    rintro _ rfl
    refine gFi 9 rfl ?_
    rintro _ rfl
    refine gFi 10 rfl ?_
    rintro _ rfl
    refine gFi 11 rfl ?_
    rintro _ rfl
    refine gFi 12 rfl ?_
    rintro _ rfl
    refine gFi 13 rfl ?_
    rintro _ rfl
    refine gFi 14 rfl ?_
    rintro _ rfl
    refine gFi 15 rfl ?_
    rintro _ rfl
    refine gFi 16 rfl ?_
    rintro _ rfl
    refine gFi 17 rfl ?_
    rintro _ rfl
    refine gFi 4 rfl ?_
    rintro _ rfl
    refine gFi0 ?_
    simp only [List.drop_succ_cons, List.drop_zero, Act.put, List.setIfInBounds_toArray, List.set_cons_succ, List.set_cons_zero]
    have HB := hide hC.bel
    clear hC h1
    go_wp2
    go_ret
    exact ⟨rfl, HB.out⟩

theorem ref7Sign_any (neg : Bool) (z : Int) (s : Nat) (hs : s < QQ) (u : Value) (w : World) (hu : NumV w u neg z s 40) : Calls Tryd.prog 92 #[u] w fun e w' => e = .returned (.int .i64 (sgnZ neg s)) ∧ Below w.heap.size w w' := by
  obtain ⟨v, rfl, hv⟩ := hu
  obtain ⟨ao, l, ca, rfl⟩ := hv.slice
  have HLN := hide (fun w h => refLen_any s 40 (.slice ao l ca) w h (by decide))
  have HV := hide (hv.below (below_allocs w (.cells #[.bool neg, .slice ao l ca, .int .i64 z] 56)))
  have HB := hide (below_allocs w (.cells #[.bool neg, .slice ao l ca, .int .i64 z] 56))
  clear hv
  by_cases h0 : s = 0
  · rw [show sgnZ neg s = 0 from if_pos h0]
    rw [show Go.bitLen s = 0 by rw [h0]; rfl] at HLN
    clear h0
    go_enter Tryd.func92, Tryd.ntmps92
    go_wp2_with fail
    refine (HLN.out _ HV.out).mono ?_
    rintro e wl ⟨rfl, hw⟩
    subst wl
    go_wp2
    go_ret
    exact ⟨rfl, HB.out⟩
  · rw [show sgnZ neg s = if neg then -1 else 1 from if_neg h0]
    have hp := len_pos h0
    clear h0
    generalize Go.bitLen s = k at *
    have hk : (((k : Nat) : Int) == 0) = false := by rw [beq_eq_false_iff_ne]; omega
    cases neg
    · go_enter Tryd.func92, Tryd.ntmps92
      go_wp2_with fail
      refine (HLN.out _ HV.out).mono ?_
      rintro e wl ⟨rfl, hw⟩
      subst wl
      go_wp2
      go_ret
      exact ⟨rfl, HB.out⟩
    · go_enter Tryd.func92, Tryd.ntmps92
      go_wp2_with fail
      refine (HLN.out _ HV.out).mono ?_
      rintro e wl ⟨rfl, hw⟩
      subst wl
      go_wp2
      go_ret
      exact ⟨rfl, HB.out⟩

set_option maxHeartbeats 2000000 in
theorem rcmp_S (n1 n2 : Bool) (ao1 ao2 : Option Addr) (l1 ca1 l2 ca2 : Nat) (ea eb : Int) (a b K : Nat) (x y q p r : Int)
    (HS1 : Hid (∀ w, BigV w (.slice ao1 l1 ca1) a K → Calls Tryd.prog 92 #[.agg #[.bool n1, .slice ao1 l1 ca1, .int .i64 ea]] w fun e w' => e = .returned (.int .i64 x) ∧ Below w.heap.size w w'))
    (HS2 : Hid (∀ w, BigV w (.slice ao2 l2 ca2) b K → Calls Tryd.prog 92 #[.agg #[.bool n2, .slice ao2 l2 ca2, .int .i64 eb]] w fun e w' => e = .returned (.int .i64 y) ∧ Below w.heap.size w w'))
    (HNE : Hid ((x != y) = false))
    (HSZ : Hid (∀ w, BigV w (.slice ao1 l1 ca1) a K → BigV w (.slice ao2 l2 ca2) b K → Calls Tryd.prog 39 #[.agg #[.bool n1, .slice ao1 l1 ca1, .int .i64 ea], .agg #[.bool n2, .slice ao2 l2 ca2, .int .i64 eb]] w fun e w' => e = .returned (.int .i64 q) ∧ Below w.heap.size w w'))
    (HMU : Hid (IntKind.i64.wrap (x * q) = p)) (HMM : Hid (max (-1) (min 1 p) = r)) (w : World) (hva : BigV w (.slice ao1 l1 ca1) a K) (hvb : BigV w (.slice ao2 l2 ca2) b K) :
    Calls Tryd.prog 46 #[.agg #[.bool n1, .slice ao1 l1 ca1, .int .i64 ea], .agg #[.bool n2, .slice ao2 l2 ca2, .int .i64 eb]] w fun e w' => e = .returned (.int .i64 r) ∧ Below w.heap.size w w' := by
  have HST := hide (szSt_start n1 n2 ao1 ao2 l1 ca1 l2 ca2 ea eb a b K w hva hvb)
  clear hva hvb
  go_enter Tryd.func46, Tryd.ntmps46
  go_upto_region 1 with fail
  refine wp_gen (fun W => SzSt n1 n2 (.slice ao1 l1 ca1) (.slice ao2 l2 ca2) ea eb a b K w W) HST.out ?_
  clear HST
  rintro W1 h1
  refine wp_region_grow 6 [(8, .val (.agg #[.bool n1, .slice ao1 l1 ca1, .int .i64 ea])), (9, .val (.int .i64 x)), (10, .val (.agg #[.bool n2, .slice ao2 l2 ca2, .int .i64 eb])), (11, .val (.int .i64 y)), (5, .val (.int .i64 x)), (6, .val (.int .i64 y))]
    (fun W => SzSt n1 n2 (.slice ao1 l1 ca1) (.slice ao2 l2 ca2) ea eb a b K w W) mixedOk (by kernel_rfl) (by kernel_rfl) (h1.below (Below.refl _ _).drew) (fun W W' h hb => h.below hb) ?_ ?_
  · refine gSt (gStep_run rfl ?_) ?_
    · intro ρ W hC hc hf hL
      have e2 : ρ (.tmp 2) = .pointer (some ⟨w.heap.size, 0, none⟩) := hL 2 (by decide +kernel)
      have a0 := hC.a0
      have a1 := hC.a1
      have a2 := hC.a2
      simp [go_sem, hc, hf, e2, a0, a1, a2]
      exact ⟨Below.refl _ _, rfl⟩
    refine gSt (gStep_run rfl ?_) ?_
    · intro ρ W hC hc hf hL
      have e8 : ρ (.tmp 8) = .agg #[.bool n1, .slice ao1 l1 ca1, .int .i64 ea] := hL 8 (by decide +kernel)
      simp [go_sem, hc, hf, e8]
      refine (HS1.out W hC.va).mono ?_
      rintro e w' ⟨rfl, hb⟩
      exact ⟨_, rfl, by first | exact hb | (subst hb; exact Below.refl _ _), rfl⟩
    refine gSt (gStep_run rfl ?_) ?_
    · intro ρ W hC hc hf hL
      have e3 : ρ (.tmp 3) = .pointer (some ⟨w.heap.size + 1, 0, none⟩) := hL 3 (by decide +kernel)
      have b0 := hC.b0
      have b1 := hC.b1
      have b2 := hC.b2
      simp [go_sem, hc, hf, e3, b0, b1, b2]
      exact ⟨Below.refl _ _, rfl⟩
    refine gSt (gStep_run rfl ?_) ?_
    · intro ρ W hC hc hf hL
      have e10 : ρ (.tmp 10) = .agg #[.bool n2, .slice ao2 l2 ca2, .int .i64 eb] := hL 10 (by decide +kernel)
      simp [go_sem, hc, hf, e10]
      refine (HS2.out W hC.vb).mono ?_
      rintro e w' ⟨rfl, hb⟩
      exact ⟨_, rfl, by first | exact hb | (subst hb; exact Below.refl _ _), rfl⟩
    refine gSt (gStep_run rfl (gRun_move 9 5 (.inr rfl) rfl (by decide +kernel) (fun v w h => h))) ?_
    refine gSt (gStep_run rfl (gRun_move 11 6 (.inr rfl) rfl (by decide +kernel) (fun v w h => h))) ?_
    exact gSt0
  · intro W hC
    refine gFi 8 rfl ?_
    rintro _ rfl
    refine gFi 9 rfl ?_
    rintro _ rfl
    refine gFi 10 rfl ?_
    rintro _ rfl
    refine gFi 11 rfl ?_
    rintro _ rfl
    refine gFi 5 rfl ?_
    rintro _ rfl
    refine gFi 6 rfl ?_
    rintro _ rfl
    refine gFi0 ?_
    simp only [List.drop_succ_cons, List.drop_zero, Act.put, List.setIfInBounds_toArray, List.set_cons_succ, List.set_cons_zero]
    have HS := hide hC
    clear hC h1
    have hne := HNE.out
    have q0 := HS.out.a0
    have q1 := HS.out.a1
    have q2 := HS.out.a2
    have q3 := HS.out.b0
    have q4 := HS.out.b1
    have q5 := HS.out.b2
    go_wp2_with fail
    refine (HSZ.out _ HS.out.va HS.out.vb).mono ?_
    rintro e w5 ⟨rfl, hb5⟩
    have HB := hide (below_trans HS.out.bel hb5)
    clear hb5 HS q0 q1 q2 q3 q4 q5 hne
    have hmu := HMU.out
    go_wp2
    go_ret
    exact ⟨ret_i64 HMM.out, HB.out⟩

set_option maxHeartbeats 2000000 in
theorem rcmp_L (n1 n2 : Bool) (ao1 ao2 : Option Addr) (l1 ca1 l2 ca2 : Nat) (ea eb : Int) (a b K : Nat) (x y q p r : Int)
    (HS1 : Hid (∀ w, BigV w (.slice ao1 l1 ca1) a K → Calls Tryd.prog 92 #[.agg #[.bool n1, .slice ao1 l1 ca1, .int .i64 ea]] w fun e w' => e = .returned (.int .i64 x) ∧ Below w.heap.size w w'))
    (HS2 : Hid (∀ w, BigV w (.slice ao2 l2 ca2) b K → Calls Tryd.prog 92 #[.agg #[.bool n2, .slice ao2 l2 ca2, .int .i64 eb]] w fun e w' => e = .returned (.int .i64 y) ∧ Below w.heap.size w w'))
    (HNE : Hid ((x != y) = true))
    (hlt : x < y) (w : World) (hva : BigV w (.slice ao1 l1 ca1) a K) (hvb : BigV w (.slice ao2 l2 ca2) b K) :
    Calls Tryd.prog 46 #[.agg #[.bool n1, .slice ao1 l1 ca1, .int .i64 ea], .agg #[.bool n2, .slice ao2 l2 ca2, .int .i64 eb]] w fun e w' => e = .returned (.int .i64 (-1)) ∧ Below w.heap.size w w' := by
  have HST := hide (szSt_start n1 n2 ao1 ao2 l1 ca1 l2 ca2 ea eb a b K w hva hvb)
  clear hva hvb
  go_enter Tryd.func46, Tryd.ntmps46
  go_upto_region 1 with fail
  refine wp_gen (fun W => SzSt n1 n2 (.slice ao1 l1 ca1) (.slice ao2 l2 ca2) ea eb a b K w W) HST.out ?_
  clear HST
  rintro W1 h1
  refine wp_region_grow 6 [(8, .val (.agg #[.bool n1, .slice ao1 l1 ca1, .int .i64 ea])), (9, .val (.int .i64 x)), (10, .val (.agg #[.bool n2, .slice ao2 l2 ca2, .int .i64 eb])), (11, .val (.int .i64 y)), (5, .val (.int .i64 x)), (6, .val (.int .i64 y))]
    (fun W => SzSt n1 n2 (.slice ao1 l1 ca1) (.slice ao2 l2 ca2) ea eb a b K w W) mixedOk (by kernel_rfl) (by kernel_rfl) (h1.below (Below.refl _ _).drew) (fun W W' h hb => h.below hb) ?_ ?_
  · refine gSt (gStep_run rfl ?_) ?_
    · intro ρ W hC hc hf hL
      have e2 : ρ (.tmp 2) = .pointer (some ⟨w.heap.size, 0, none⟩) := hL 2 (by decide +kernel)
      have a0 := hC.a0
      have a1 := hC.a1
      have a2 := hC.a2
      simp [go_sem, hc, hf, e2, a0, a1, a2]
      exact ⟨Below.refl _ _, rfl⟩
    refine gSt (gStep_run rfl ?_) ?_
    · intro ρ W hC hc hf hL
      have e8 : ρ (.tmp 8) = .agg #[.bool n1, .slice ao1 l1 ca1, .int .i64 ea] := hL 8 (by decide +kernel)
      simp [go_sem, hc, hf, e8]
      refine (HS1.out W hC.va).mono ?_
      rintro e w' ⟨rfl, hb⟩
      exact ⟨_, rfl, by first | exact hb | (subst hb; exact Below.refl _ _), rfl⟩
    refine gSt (gStep_run rfl ?_) ?_
    · intro ρ W hC hc hf hL
      have e3 : ρ (.tmp 3) = .pointer (some ⟨w.heap.size + 1, 0, none⟩) := hL 3 (by decide +kernel)
      have b0 := hC.b0
      have b1 := hC.b1
      have b2 := hC.b2
      simp [go_sem, hc, hf, e3, b0, b1, b2]
      exact ⟨Below.refl _ _, rfl⟩
    refine gSt (gStep_run rfl ?_) ?_
    · intro ρ W hC hc hf hL
      have e10 : ρ (.tmp 10) = .agg #[.bool n2, .slice ao2 l2 ca2, .int .i64 eb] := hL 10 (by decide +kernel)
      simp [go_sem, hc, hf, e10]
      refine (HS2.out W hC.vb).mono ?_
      rintro e w' ⟨rfl, hb⟩
      exact ⟨_, rfl, by first | exact hb | (subst hb; exact Below.refl _ _), rfl⟩
    refine gSt (gStep_run rfl (gRun_move 9 5 (.inr rfl) rfl (by decide +kernel) (fun v w h => h))) ?_
    refine gSt (gStep_run rfl (gRun_move 11 6 (.inr rfl) rfl (by decide +kernel) (fun v w h => h))) ?_
    exact gSt0
  · intro W hC
    refine gFi 8 rfl ?_
    rintro _ rfl
    refine gFi 9 rfl ?_
    rintro _ rfl
    refine gFi 10 rfl ?_
    rintro _ rfl
    refine gFi 11 rfl ?_
    rintro _ rfl
    refine gFi 5 rfl ?_
    rintro _ rfl
    refine gFi 6 rfl ?_
    rintro _ rfl
    refine gFi0 ?_
    simp only [List.drop_succ_cons, List.drop_zero, Act.put, List.setIfInBounds_toArray, List.set_cons_succ, List.set_cons_zero]
    have HB := hide hC.bel
    have hne := HNE.out
    clear hC h1
    go_wp2
    go_ret
    exact ⟨rfl, HB.out⟩

set_option maxHeartbeats 2000000 in
theorem rcmp_G (n1 n2 : Bool) (ao1 ao2 : Option Addr) (l1 ca1 l2 ca2 : Nat) (ea eb : Int) (a b K : Nat) (x y q p r : Int)
    (HS1 : Hid (∀ w, BigV w (.slice ao1 l1 ca1) a K → Calls Tryd.prog 92 #[.agg #[.bool n1, .slice ao1 l1 ca1, .int .i64 ea]] w fun e w' => e = .returned (.int .i64 x) ∧ Below w.heap.size w w'))
    (HS2 : Hid (∀ w, BigV w (.slice ao2 l2 ca2) b K → Calls Tryd.prog 92 #[.agg #[.bool n2, .slice ao2 l2 ca2, .int .i64 eb]] w fun e w' => e = .returned (.int .i64 y) ∧ Below w.heap.size w w'))
    (HNE : Hid ((x != y) = true))
    (hlt : ¬ x < y) (w : World) (hva : BigV w (.slice ao1 l1 ca1) a K) (hvb : BigV w (.slice ao2 l2 ca2) b K) :
    Calls Tryd.prog 46 #[.agg #[.bool n1, .slice ao1 l1 ca1, .int .i64 ea], .agg #[.bool n2, .slice ao2 l2 ca2, .int .i64 eb]] w fun e w' => e = .returned (.int .i64 1) ∧ Below w.heap.size w w' := by
  have HST := hide (szSt_start n1 n2 ao1 ao2 l1 ca1 l2 ca2 ea eb a b K w hva hvb)
  clear hva hvb
  go_enter Tryd.func46, Tryd.ntmps46
  go_upto_region 1 with fail
  refine wp_gen (fun W => SzSt n1 n2 (.slice ao1 l1 ca1) (.slice ao2 l2 ca2) ea eb a b K w W) HST.out ?_
  clear HST
  rintro W1 h1
  refine wp_region_grow 6 [(8, .val (.agg #[.bool n1, .slice ao1 l1 ca1, .int .i64 ea])), (9, .val (.int .i64 x)), (10, .val (.agg #[.bool n2, .slice ao2 l2 ca2, .int .i64 eb])), (11, .val (.int .i64 y)), (5, .val (.int .i64 x)), (6, .val (.int .i64 y))]
    (fun W => SzSt n1 n2 (.slice ao1 l1 ca1) (.slice ao2 l2 ca2) ea eb a b K w W) mixedOk (by kernel_rfl) (by kernel_rfl) (h1.below (Below.refl _ _).drew) (fun W W' h hb => h.below hb) ?_ ?_
  · refine gSt (gStep_run rfl ?_) ?_
    · intro ρ W hC hc hf hL
      have e2 : ρ (.tmp 2) = .pointer (some ⟨w.heap.size, 0, none⟩) := hL 2 (by decide +kernel)
      have a0 := hC.a0
      have a1 := hC.a1
      have a2 := hC.a2
      simp [go_sem, hc, hf, e2, a0, a1, a2]
      exact ⟨Below.refl _ _, rfl⟩
    refine gSt (gStep_run rfl ?_) ?_
    · intro ρ W hC hc hf hL
      have e8 : ρ (.tmp 8) = .agg #[.bool n1, .slice ao1 l1 ca1, .int .i64 ea] := hL 8 (by decide +kernel)
      simp [go_sem, hc, hf, e8]
      refine (HS1.out W hC.va).mono ?_
      rintro e w' ⟨rfl, hb⟩
      exact ⟨_, rfl, by first | exact hb | (subst hb; exact Below.refl _ _), rfl⟩
    refine gSt (gStep_run rfl ?_) ?_
    · intro ρ W hC hc hf hL
      have e3 : ρ (.tmp 3) = .pointer (some ⟨w.heap.size + 1, 0, none⟩) := hL 3 (by decide +kernel)
      have b0 := hC.b0
      have b1 := hC.b1
      have b2 := hC.b2
      simp [go_sem, hc, hf, e3, b0, b1, b2]
      exact ⟨Below.refl _ _, rfl⟩
    refine gSt (gStep_run rfl ?_) ?_
    · intro ρ W hC hc hf hL
      have e10 : ρ (.tmp 10) = .agg #[.bool n2, .slice ao2 l2 ca2, .int .i64 eb] := hL 10 (by decide +kernel)
      simp [go_sem, hc, hf, e10]
      refine (HS2.out W hC.vb).mono ?_
      rintro e w' ⟨rfl, hb⟩
      exact ⟨_, rfl, by first | exact hb | (subst hb; exact Below.refl _ _), rfl⟩
    refine gSt (gStep_run rfl (gRun_move 9 5 (.inr rfl) rfl (by decide +kernel) (fun v w h => h))) ?_
    refine gSt (gStep_run rfl (gRun_move 11 6 (.inr rfl) rfl (by decide +kernel) (fun v w h => h))) ?_
    exact gSt0
  · intro W hC
    refine gFi 8 rfl ?_
    rintro _ rfl
    refine gFi 9 rfl ?_
    rintro _ rfl
    refine gFi 10 rfl ?_
    rintro _ rfl
    refine gFi 11 rfl ?_
    rintro _ rfl
    refine gFi 5 rfl ?_
    rintro _ rfl
    refine gFi 6 rfl ?_
    rintro _ rfl
    refine gFi0 ?_
    simp only [List.drop_succ_cons, List.drop_zero, Act.put, List.setIfInBounds_toArray, List.set_cons_succ, List.set_cons_zero]
    have HB := hide hC.bel
    have hne := HNE.out
    clear hC h1
    go_wp2
    go_ret
    exact ⟨rfl, HB.out⟩

theorem size_clamp (a b : Nat) (ea eb : Int) : (sizeZ a ea b eb < 0 ↔ cmpV a ea b eb = -1) ∧ (sizeZ a ea b eb = 0 ↔ cmpV a ea b eb = 0) ∧ (0 < sizeZ a ea b eb ↔ cmpV a ea b eb = 1) := by
  have h := sizeZ_spec a b ea eb (min ea eb) (by omega) (by omega)
  have h1 := cmpN_neg (vl a ea (min ea eb)) (vl b eb (min ea eb))
  have h2 := cmpN_zero (vl a ea (min ea eb)) (vl b eb (min ea eb))
  have h3 := cmpN_bd (vl a ea (min ea eb)) (vl b eb (min ea eb))
  unfold cmpV
  generalize cmpN (vl a ea (min ea eb)) (vl b eb (min ea eb)) = g at *
  refine ⟨⟨fun h4 => ?_, fun h4 => ?_⟩, ⟨fun h4 => ?_, fun h4 => ?_⟩, ⟨fun h4 => ?_, fun h4 => ?_⟩⟩
  · have := h1.2 (h.1.1 h4); omega
  · exact h.1.2 (h1.1 (by omega))
  · exact h2.2 (h.2.1 h4)
  · exact h.2.2 (h2.1 h4)
  · have h5 : ¬ g < 0 := fun h5 => by have := h.1.2 (h1.1 h5); omega
    have h6 : ¬ g = 0 := fun h6 => by have := h.2.2 (h2.1 h6); omega
    omega
  · have h5 : ¬ sizeZ a ea b eb < 0 := fun h5 => by have := h1.2 (h.1.1 h5); omega
    have h6 : ¬ sizeZ a ea b eb = 0 := fun h6 => by have := h2.2 (h.2.1 h6); omega
    omega
theorem sizeZ_bd (a b : Nat) (ea eb : Int) (ha : a < QQ) (hb : b < QQ) (hea : -100000000 ≤ ea ∧ ea ≤ 100000000) (heb : -100000000 ≤ eb ∧ eb ≤ 100000000) : -300000000 ≤ sizeZ a ea b eb ∧ sizeZ a ea b eb ≤ 300000000 := by
  have la := len_qq ha
  have lb := len_qq hb
  have h3 := cmpN_bd (a * 2 ^ (ea - min ea eb).toNat) (b * 2 ^ (eb - min ea eb).toNat)
  unfold sizeZ
  repeat' split
  all_goals omega
theorem ref7Cmp_any (n1 n2 : Bool) (ea eb : Int) (a b : Nat) (u v : Value) (w : World) (hu : NumV w u n1 ea a 40) (hv : NumV w v n2 eb b 40) (ha : a < QQ) (hb : b < QQ) (hea : -100000000 ≤ ea ∧ ea ≤ 100000000) (heb : -100000000 ≤ eb ∧ eb ≤ 100000000) :
    Calls Tryd.prog 46 #[u, v] w fun e w' => e = .returned (.int .i64 (cZ n1 a ea n2 b eb)) ∧ Below w.heap.size w w' := by
  obtain ⟨u, rfl, hu⟩ := hu
  obtain ⟨v, rfl, hv⟩ := hv
  obtain ⟨ao1, l1, ca1, rfl⟩ := hu.slice
  obtain ⟨ao2, l2, ca2, rfl⟩ := hv.slice
  have HS1 : ∀ w, BigV w (.slice ao1 l1 ca1) a 40 → _ := fun w h => ref7Sign_any n1 ea a ha _ w ⟨_, rfl, h⟩
  have HS2 : ∀ w, BigV w (.slice ao2 l2 ca2) b 40 → _ := fun w h => ref7Sign_any n2 eb b hb _ w ⟨_, rfl, h⟩
  have h1 := sgn_cases n1 a
  have h2 := sgn_cases n2 b
  unfold cZ
  by_cases hs : sgnZ n1 a = sgnZ n2 b
  · rw [if_pos hs]
    have hz := sizeZ_bd a b ea eb ha hb hea heb
    have hc := size_clamp a b ea eb
    have hbd := cmpN_bd (vl a ea (min ea eb)) (vl b eb (min ea eb))
    refine rcmp_S n1 n2 ao1 ao2 l1 ca1 l2 ca2 ea eb a b 40 _ _ (sizeZ a ea b eb) (sgnZ n1 a * sizeZ a ea b eb) _ HS1 HS2 (by unfold Hid; rw [bne_eq_false_iff_eq]; exact hs) (fun w p q => refSize_any n1 n2 a b ea eb _ _ w ⟨_, rfl, p⟩ ⟨_, rfl, q⟩ ha hb hea heb) ?_ ?_ w hu hv
    · unfold Hid
      rw [IntKind.wrap_i64]
      rcases h1 with ⟨_, h1⟩ | ⟨_, _, h1⟩ | ⟨_, _, h1⟩
      · rw [h1]; omega
      · rw [h1]; omega
      · rw [h1]; omega
    · unfold Hid
      unfold cmpV at hc ⊢
      generalize cmpN (vl a ea (min ea eb)) (vl b eb (min ea eb)) = g at *
      generalize sizeZ a ea b eb = k at *
      rcases h1 with ⟨_, h1⟩ | ⟨_, _, h1⟩ | ⟨_, _, h1⟩
      · rw [h1]; omega
      · rw [h1]; omega
      · rw [h1]; omega
  · rw [if_neg hs]
    unfold cmpI
    by_cases hl : sgnZ n1 a < sgnZ n2 b
    · rw [if_pos hl]
      exact rcmp_L n1 n2 ao1 ao2 l1 ca1 l2 ca2 ea eb a b 40 _ _ 0 0 0 HS1 HS2 (by unfold Hid; rw [bne_iff_ne]; exact hs) hl w hu hv
    · rw [if_neg hl, if_pos (by omega)]
      exact rcmp_G n1 n2 ao1 ao2 l1 ca1 l2 ca2 ea eb a b 40 _ _ 0 0 0 HS1 HS2 (by unfold Hid; rw [bne_iff_ne]; exact hs) hl w hu hv

end Go.Proofs.YtidfegilddlglaaDoor

