/- Contracts and laws: CntA, NanC, NanD, PckF, PckG. -/
import Derived.Test.YtpcjdllijkjdkaaGreatDoorPartAT
import Derived.Deep.Slices
import Derived.Test.YtpcjdllijkjdkaaGreatDoorPartAW
import Derived.Test.YtpcjdllijkjdkaaGreatDoorPartAY
import Derived.Test.YtpcjdllijkjdkaaGreatDoorPartAG
import Derived.Test.YtpcjdllijkjdkaaGreatDoorPartAK
import Derived.Test.YtpcjdllijkjdkaaGreatDoorPartAO
/- Contracts: class.Count; slices of words; arrays of seven ints. -/
set_option linter.unusedVariables false
set_option linter.unusedSimpArgs false
set_option maxRecDepth 8000
namespace Go.Proofs.YtpcjdllijkjdkaaGreatDoor
open Go.ChangeShapes Go.WideShapes Go.ChangeAt Go.RowKit Go.Deep Plain

end Go.Proofs.YtpcjdllijkjdkaaGreatDoor

/- Contracts: the document's Quieted; nan.None, Of and what it hands on; slices.IndexFunc, ContainsFunc over words. -/
set_option linter.unusedVariables false
set_option linter.unusedSimpArgs false
set_option maxRecDepth 8000
namespace Go.Proofs.YtpcjdllijkjdkaaGreatDoor
open Go.RowKit Plain

theorem ret_in {a b : Int} (h : a = b) : Ending.returned (.int .i64 a) = Ending.returned (.int .i64 b) := by rw [h]
end Go.Proofs.YtpcjdllijkjdkaaGreatDoor

/- Contracts: nan.None, Of; the document's Of. -/
set_option linter.unusedVariables false
set_option linter.unusedSimpArgs false
set_option maxRecDepth 8000
namespace Go.Proofs.YtpcjdllijkjdkaaGreatDoor
open Go.RowKit Plain

structure NoSt  (w W : World) : Prop where
  g : FmtG W
  gl : 0 < w.heap.size
  r : WB W (w.heap.size) (0) (0)
  fr : ∀ i, W.frozen? ⟨w.heap.size, i, none⟩ = false
  lt : w.heap.size < W.heap.size
  bel : Below w.heap.size w W
theorem NoSt.under  {w W W' : World} (h : NoSt w W) {C : Nat} (hb : Below C W W') (hc : w.heap.size < C) : NoSt w W' :=
  ⟨⟨fun i hi => (hb.cell (p := ⟨0, i, none⟩) (show 0 < C by have := h.gl; omega)).trans (h.g.c i hi), Nat.lt_of_lt_of_le h.g.lt hb.size⟩, h.gl, h.r.under hb (show w.heap.size < C by omega), fun i => (hb.frozen (p := ⟨w.heap.size, i, none⟩) (show w.heap.size < C by omega)).trans (h.fr i), Nat.lt_of_lt_of_le h.lt hb.size, h.bel.trans (hb.mono (by omega))⟩
theorem NoSt.below  {w W W' : World} (h : NoSt w W) (hb : Below W.heap.size W W') : NoSt w W' := h.under hb h.lt
theorem noSt_start (w : World) (hg : FmtG w) : NoSt w (w.alloc (.cells #[.int .u64 0, .int .u64 0] 29)) :=
  ⟨hg.below (below_allocs _ _), hg.lt, wb_new _ _, fun i => by simp [go_sem], by simp, below_allocs _ _⟩

end Go.Proofs.YtpcjdllijkjdkaaGreatDoor

/- Contracts: the document's real numbers: Cmp, Top, Down, At. -/
set_option linter.unusedVariables false
set_option linter.unusedSimpArgs false
set_option maxRecDepth 8000
namespace Go.Proofs.YtpcjdllijkjdkaaGreatDoor
open Go.RowKit Plain

theorem NumV.mono {W : World} {u : Value} {neg : Bool} {z : Int} {s K K' : Nat} (h : NumV W u neg z s K) (hk : K ≤ K') : NumV W u neg z s K' := by
  obtain ⟨v, h1, h2⟩ := h
  exact ⟨v, h1, h2.mono hk⟩
theorem refSizeG (n1 n2 : Bool) (a b K : Nat) (ea eb : Int) (u v : Value) (w : World) (hu : NumV w u n1 ea a K) (hv : NumV w v n2 eb b K) (ha : Go.bitLen a ≤ 50000) (hb : Go.bitLen b ≤ 50000) (hK : K ≤ 500000) (hea : -100000000 ≤ ea ∧ ea ≤ 100000000) (heb : -100000000 ≤ eb ∧ eb ≤ 100000000) :
    Calls Tryz.prog 68 #[u, v] w fun e w' => e = .returned (.int .i64 (sizeZ a ea b eb)) ∧ Below w.heap.size w w' := by
  obtain ⟨u, rfl, hu⟩ := hu
  obtain ⟨v, rfl, hv⟩ := hv
  obtain ⟨ao1, l1, ca1, rfl⟩ := hu.slice
  obtain ⟨ao2, l2, ca2, rfl⟩ := hv.slice
  have HLA : ∀ w, BigV w (.slice ao1 l1 ca1) a K → _ := fun w h => refLen_any a K _ w h (by omega)
  have HLB : ∀ w, BigV w (.slice ao2 l2 ca2) b K → _ := fun w h => refLen_any b K _ w h (by omega)
  unfold sizeZ
  by_cases h1 : a = 0
  · rw [if_pos h1]
    have e1 : Go.bitLen a = 0 := by rw [h1]; rfl
    rw [e1] at HLA
    by_cases h2 : b = 0
    · rw [if_pos h2]
      have e2 : Go.bitLen b = 0 := by rw [h2]; rfl
      rw [e2] at HLB
      exact size_ZZ n1 n2 ao1 ao2 l1 ca1 l2 ca2 ea eb a b K 0 0 0 HLA HLB hea heb w hu hv
    · rw [if_neg h2]
      exact size_ZP n1 n2 ao1 ao2 l1 ca1 l2 ca2 ea eb a b K 0 (Go.bitLen b) 0 HLA HLB ⟨len_pos h2, by omega⟩ hea heb w hu hv
  rw [if_neg h1]
  by_cases h2 : b = 0
  · rw [if_pos h2]
    have e2 : Go.bitLen b = 0 := by rw [h2]; rfl
    rw [e2] at HLB
    exact size_PZ n1 n2 ao1 ao2 l1 ca1 l2 ca2 ea eb a b K (Go.bitLen a) 0 0 HLA HLB ⟨len_pos h1, by omega⟩ hea heb w hu hv
  rw [if_neg h2]
  by_cases ht : ea + (Go.bitLen a : Int) ≠ eb + (Go.bitLen b : Int)
  · rw [if_pos ht]
    exact size_T n1 n2 ao1 ao2 l1 ca1 l2 ca2 ea eb a b K (Go.bitLen a) (Go.bitLen b) 0 HLA HLB ⟨len_pos h1, by omega⟩ ⟨len_pos h2, by omega⟩ hea heb (by unfold Hid; rw [bne_iff_ne]; exact ht) w hu hv
  · rw [if_neg ht]
    have p1 := len_pos h1
    have p2 := len_pos h2
    refine size_E n1 n2 ao1 ao2 l1 ca1 l2 ca2 ea eb a b K (Go.bitLen a) (Go.bitLen b) _ HLA HLB ⟨p1, by omega⟩ ⟨p2, by omega⟩ hea heb (by unfold Hid; rw [bne_eq_false_iff_eq]; omega) (min ea eb) rfl (by omega)
      (a * 2 ^ (ea - min ea eb).toNat) (b * 2 ^ (eb - min ea eb).toNat) (K + 50000)
      (fun w h => (refShl_int a K (ea - min ea eb).toNat (ea - min ea eb) _ w h (by omega) (by omega) (by omega)).mono fun e w' ⟨q, e1, e2, e3⟩ => ⟨q, e1, e2.mono (by omega), e3⟩)
      (fun w h => (refShl_int b K (eb - min ea eb).toNat (eb - min ea eb) _ w h (by omega) (by omega) (by omega)).mono fun e w' ⟨q, e1, e2, e3⟩ => ⟨q, e1, e2.mono (by omega), e3⟩)
      (fun p q w hp hq => cmp_any _ _ (K + 50000) (K + 50000) p q w hp hq) w hu hv
theorem len_mul (a b : Nat) : Go.bitLen (a * b) ≤ Go.bitLen a + Go.bitLen b := by
  refine (len_le _ _).2 ?_
  rw [Nat.pow_add]
  exact Nat.mul_lt_mul'' (len_lt a) (len_lt b)

/-- A real number, above 0, without its sign. -/
def RlV (W : World) (u : Value) (neg : Bool) (kd num den : Nat) (e : Int) (K : Nat) : Prop := ∃ v1 v2, u = .agg #[.bool neg, .int .i64 (kd : Nat), v1, v2, .int .i64 e] ∧ BigV W v1 num K ∧ BigV W v2 den K
theorem RlV.below {W W' : World} {u : Value} {neg : Bool} {kd num den : Nat} {e : Int} {K : Nat} (h : RlV W u neg kd num den e K) (hb : Below W.heap.size W W') : RlV W' u neg kd num den e K := by
  obtain ⟨v1, v2, h1, h2, h3⟩ := h
  exact ⟨v1, v2, h1, h2.below hb, h3.below hb⟩
/-- A power of a number of units of a place, times the denominator, held against the numerator. -/
def cR (kd num den : Nat) (e : Int) (m : Nat) (k : Int) : Int := sizeZ (m ^ kd * den) ((kd : Int) * k) num e
structure RlSt (neg : Bool) (kd e : Int) (v1 v2 : Value) (w W : World) : Prop where
  c0 : W.cell? ⟨w.heap.size, 0, none⟩ = some (.bool neg)
  c1 : W.cell? ⟨w.heap.size, 1, none⟩ = some (.int .i64 kd)
  c2 : W.cell? ⟨w.heap.size, 2, none⟩ = some (v1)
  c3 : W.cell? ⟨w.heap.size, 3, none⟩ = some (v2)
  c4 : W.cell? ⟨w.heap.size, 4, none⟩ = some (.int .i64 e)
  lt : w.heap.size < W.heap.size
  bel : Below w.heap.size w W
theorem RlSt.under {neg : Bool} {kd e : Int} {v1 v2 : Value} {w W W' : World} (h : RlSt neg kd e v1 v2 w W) {C : Nat} (hb : Below C W W') (hc : w.heap.size < C) : RlSt neg kd e v1 v2 w W' :=
  ⟨(hb.cell (p := ⟨w.heap.size, 0, none⟩) (show w.heap.size < C by omega)).trans h.c0, (hb.cell (p := ⟨w.heap.size, 1, none⟩) (show w.heap.size < C by omega)).trans h.c1, (hb.cell (p := ⟨w.heap.size, 2, none⟩) (show w.heap.size < C by omega)).trans h.c2, (hb.cell (p := ⟨w.heap.size, 3, none⟩) (show w.heap.size < C by omega)).trans h.c3, (hb.cell (p := ⟨w.heap.size, 4, none⟩) (show w.heap.size < C by omega)).trans h.c4, Nat.lt_of_lt_of_le h.lt hb.size, h.bel.trans (hb.mono (by omega))⟩
theorem RlSt.below {neg : Bool} {kd e : Int} {v1 v2 : Value} {w W W' : World} (h : RlSt neg kd e v1 v2 w W) (hb : Below W.heap.size W W') : RlSt neg kd e v1 v2 w W' := h.under hb h.lt
theorem rlSt_start (neg : Bool) (kd e : Int) (v1 v2 : Value) (w : World) (t : TypeId) : RlSt neg kd e v1 v2 w (w.alloc (.cells #[.bool neg, .int .i64 kd, v1, v2, .int .i64 e] t)) :=
  ⟨by simp [go_sem], by simp [go_sem], by simp [go_sem], by simp [go_sem], by simp [go_sem], by simp, below_allocs _ _⟩

set_option maxHeartbeats 4000000 in
theorem rcmp_1 (neg : Bool) (e k : Int) (ao0 ao1 ao2 : Option Addr) (l0 ca0 l1 ca1 l2 ca2 m num den M K : Nat) (hm : Go.bitLen m ≤ 5000) (hn : Go.bitLen num ≤ 5000) (hd : Go.bitLen den ≤ 5000) (hM : M ≤ 10000) (hK : K ≤ 10000) (hk : -10000000 ≤ k ∧ k ≤ 10000000) (he : -10000000 ≤ e ∧ e ≤ 10000000) (w : World)
    (hv0 : BigV w (.slice ao0 l0 ca0) m M) (hv1 : BigV w (.slice ao1 l1 ca1) num K) (hv2 : BigV w (.slice ao2 l2 ca2) den K) :
    Calls Tryz.prog 62 #[.slice ao0 l0 ca0, .int .i64 k, .agg #[.bool neg, .int .i64 1, .slice ao1 l1 ca1, .slice ao2 l2 ca2, .int .i64 e]] w fun e' w' => e' = .returned (.int .i64 (sizeZ (m * den) k num e)) ∧ Below w.heap.size w w' := by
  have HS := hide (rlSt_start neg 1 e (.slice ao1 l1 ca1) (.slice ao2 l2 ca2) w 45)
  have HV0 := hide hv0
  have HV1 := hide hv1
  have HV2 := hide hv2
  have h2 := len_mul m m
  have h3 := len_mul m (m * m)
  have h4 := len_mul m den
  have HSZ := hide (fun u v w hu hv => refSizeG false false (m * den) num (M + K) k e u v w hu hv (by omega) (by omega) (by omega) (by omega) (by omega))
  clear hv0 hv1 hv2 hm hn hd h2 h3 h4
  go_enter Tryz.func62, Tryz.ntmps62
  go_upto_region 1 with fail
  refine wp_gen (fun W => RlSt neg 1 e (.slice ao1 l1 ca1) (.slice ao2 l2 ca2) w W) HS.out ?_
  clear HS
  rintro W1 h1
  have HS := hide h1
  clear h1
  have c1 := HS.out.c1
  have HX := hide (HV0.out.below HS.out.bel)
  go_upto_region 6 with fail
  refine wp_gen (fun W => RlSt neg 1 e (.slice ao1 l1 ca1) (.slice ao2 l2 ca2) w W ∧ BigV W (.slice ao0 l0 ca0) m M) ⟨HS.out, HX.out⟩ ?_
  clear HS HX c1
  rintro W4 h4
  refine wp_region_grow 13 [(29, .val (.slice ao0 l0 ca0)), (30, .val (.pointer (some ⟨w.heap.size, 3, none⟩))), (31, .val (.slice ao2 l2 ca2)), (32, .big (m * den) (M + K)), (33, .val (.int .i64 k)), (34, .num false k (m * den) (M + K)), (35, .val (.pointer (some ⟨w.heap.size, 2, none⟩))), (36, .val (.slice ao1 l1 ca1)), (37, .val (.pointer (some ⟨w.heap.size, 4, none⟩))), (38, .val (.int .i64 e)), (39, .val (.agg #[.bool false, .slice ao1 l1 ca1, .int .i64 e])), (40, .val (.int .i64 (sizeZ (m * den) k num e))), (6, .val (.int .i64 (sizeZ (m * den) k num e)))]
    (fun W => RlSt neg 1 e (.slice ao1 l1 ca1) (.slice ao2 l2 ca2) w W ∧ BigV W (.slice ao0 l0 ca0) m M) mixedOk (by kernel_rfl) (by kernel_rfl) (⟨h4.1.below (Below.refl _ _).drew, h4.2.below (Below.refl _ _).drew⟩) (fun W W' h hb => ⟨h.1.below hb, h.2.below hb⟩) ?_ ?_
  · refine gSt (gStep_run rfl (gRun_move 7 29 (.inl rfl) rfl (by decide +kernel) (fun v w h => h))) ?_
    refine gSt (gStep_run rfl ?_) ?_
    · intro ρ W hC hc hf hL
      have e5 : ρ (.tmp 5) = .pointer (some ⟨w.heap.size, 0, none⟩) := hL 5 (by decide +kernel)
      simp [go_sem, hc, hf, e5]
      exact ⟨Below.refl _ _, rfl⟩
    refine gSt (gStep_run rfl ?_) ?_
    · intro ρ W hC hc hf hL
      have e30 : ρ (.tmp 30) = .pointer (some ⟨w.heap.size, 3, none⟩) := hL 30 (by decide +kernel)
      have q3 := hC.1.c3
      simp [go_sem, hc, hf, e30, q3]
      exact ⟨Below.refl _ _, rfl⟩
    refine gSt (gStep_run rfl ?_) ?_
    · intro ρ W hC hc hf hL
      have e29 : ρ (.tmp 29) = .slice ao0 l0 ca0 := hL 29 (by decide +kernel)
      have e31 : ρ (.tmp 31) = .slice ao2 l2 ca2 := hL 31 (by decide +kernel)
      simp [go_sem, hc, hf, e29, e31]
      refine (refMul_any m den M K _ _ W hC.2 (HV2.out.below hC.1.bel) (by omega) (by omega)).mono ?_
      rintro e w' ⟨v, rfl, hv, hb⟩
      exact ⟨_, rfl, hb, hv⟩
    refine gSt (gStep_run rfl (gRun_move 8 33 (.inl rfl) rfl (by decide +kernel) (fun v w h => h))) ?_
    refine gSt (gStep_run rfl ?_) ?_
    · intro ρ W hC hc hf hL
      have b32 : BigV W (ρ (.tmp 32)) ((m * den)) ((M + K)) := hL 32 (by decide +kernel)
      have e33 : ρ (.tmp 33) = .int .i64 k := hL 33 (by decide +kernel)
      obtain ⟨ao9, l9, ca9, e32⟩ := BigV.slice b32
      have b9 : BigV W (ρ (.tmp 32)) (m * den) (M + K) := b32
      rw [e32] at b9
      simp [go_sem, hc, hf, e33, e32]
      exact ⟨Below.refl _ _, _, rfl, b9⟩
    refine gSt (gStep_run rfl ?_) ?_
    · intro ρ W hC hc hf hL
      have e5 : ρ (.tmp 5) = .pointer (some ⟨w.heap.size, 0, none⟩) := hL 5 (by decide +kernel)
      simp [go_sem, hc, hf, e5]
      exact ⟨Below.refl _ _, rfl⟩
    refine gSt (gStep_run rfl ?_) ?_
    · intro ρ W hC hc hf hL
      have e35 : ρ (.tmp 35) = .pointer (some ⟨w.heap.size, 2, none⟩) := hL 35 (by decide +kernel)
      have q2 := hC.1.c2
      simp [go_sem, hc, hf, e35, q2]
      exact ⟨Below.refl _ _, rfl⟩
    refine gSt (gStep_run rfl ?_) ?_
    · intro ρ W hC hc hf hL
      have e5 : ρ (.tmp 5) = .pointer (some ⟨w.heap.size, 0, none⟩) := hL 5 (by decide +kernel)
      simp [go_sem, hc, hf, e5]
      exact ⟨Below.refl _ _, rfl⟩
    refine gSt (gStep_run rfl ?_) ?_
    · intro ρ W hC hc hf hL
      have e37 : ρ (.tmp 37) = .pointer (some ⟨w.heap.size, 4, none⟩) := hL 37 (by decide +kernel)
      have q4 := hC.1.c4
      simp [go_sem, hc, hf, e37, q4]
      exact ⟨Below.refl _ _, rfl⟩
    refine gSt (gStep_run rfl ?_) ?_
    · intro ρ W hC hc hf hL
      have e36 : ρ (.tmp 36) = .slice ao1 l1 ca1 := hL 36 (by decide +kernel)
      have e38 : ρ (.tmp 38) = .int .i64 e := hL 38 (by decide +kernel)
      simp [go_sem, hc, hf, e36, e38]
      exact ⟨Below.refl _ _, rfl⟩
    refine gSt (gStep_run rfl ?_) ?_
    · intro ρ W hC hc hf hL
      have b34 := hL 34 (by decide +kernel)
      have e39 : ρ (.tmp 39) = .agg #[.bool false, .slice ao1 l1 ca1, .int .i64 e] := hL 39 (by decide +kernel)
      simp [go_sem, hc, hf, e39]
      refine (HSZ.out _ _ W b34 ⟨_, rfl, (HV1.out.below hC.1.bel).mono (by omega)⟩).mono ?_
      rintro e w' ⟨rfl, hb⟩
      exact ⟨_, rfl, by first | exact hb | (subst hb; exact Below.refl _ _), rfl⟩
    refine gSt (gStep_run rfl (gRun_move 40 6 (.inr rfl) rfl (by decide +kernel) (fun v w h => h))) ?_
    exact gSt0
  · intro W hC
    refine gFi 29 rfl ?_
    rintro _ rfl
    refine gFi 30 rfl ?_
    rintro _ rfl
    refine gFi 31 rfl ?_
    rintro _ rfl
    refine gFi 32 rfl ?_
    rintro u32 b32
    refine gFi 33 rfl ?_
    rintro _ rfl
    refine gFi 34 rfl ?_
    rintro u34 b34
    refine gFi 35 rfl ?_
    rintro _ rfl
    refine gFi 36 rfl ?_
    rintro _ rfl
    refine gFi 37 rfl ?_
    rintro _ rfl
    refine gFi 38 rfl ?_
    rintro _ rfl
    refine gFi 39 rfl ?_
    rintro _ rfl
    refine gFi 40 rfl ?_
    rintro _ rfl
    refine gFi 6 rfl ?_
    rintro _ rfl
    refine gFi0 ?_
    simp only [List.drop_succ_cons, List.drop_zero, Act.put, List.setIfInBounds_toArray, List.set_cons_succ, List.set_cons_zero]
    have HB := hide hC.1.bel
    clear hC h4 b32 b34
    go_wp2
    go_ret
    exact ⟨rfl, HB.out⟩

set_option maxHeartbeats 4000000 in
theorem rcmp_2 (neg : Bool) (e k : Int) (ao0 ao1 ao2 : Option Addr) (l0 ca0 l1 ca1 l2 ca2 m num den M K : Nat) (hm : Go.bitLen m ≤ 5000) (hn : Go.bitLen num ≤ 5000) (hd : Go.bitLen den ≤ 5000) (hM : M ≤ 10000) (hK : K ≤ 10000) (hk : -10000000 ≤ k ∧ k ≤ 10000000) (he : -10000000 ≤ e ∧ e ≤ 10000000) (w : World)
    (hv0 : BigV w (.slice ao0 l0 ca0) m M) (hv1 : BigV w (.slice ao1 l1 ca1) num K) (hv2 : BigV w (.slice ao2 l2 ca2) den K) :
    Calls Tryz.prog 62 #[.slice ao0 l0 ca0, .int .i64 k, .agg #[.bool neg, .int .i64 2, .slice ao1 l1 ca1, .slice ao2 l2 ca2, .int .i64 e]] w fun e' w' => e' = .returned (.int .i64 (sizeZ ((m * m) * den) (2 * k) num e)) ∧ Below w.heap.size w w' := by
  have HS := hide (rlSt_start neg 2 e (.slice ao1 l1 ca1) (.slice ao2 l2 ca2) w 45)
  have HV0 := hide hv0
  have HV1 := hide hv1
  have HV2 := hide hv2
  have h2 := len_mul m m
  have h3 := len_mul m (m * m)
  have h4 := len_mul (m * m) den
  have HSZ := hide (fun u v w hu hv => refSizeG false false ((m * m) * den) num ((M + M) + K) (2 * k) e u v w hu hv (by omega) (by omega) (by omega) (by omega) (by omega))
  clear hv0 hv1 hv2 hm hn hd h2 h3 h4
  go_enter Tryz.func62, Tryz.ntmps62
  go_upto_region 1 with fail
  refine wp_gen (fun W => RlSt neg 2 e (.slice ao1 l1 ca1) (.slice ao2 l2 ca2) w W) HS.out ?_
  clear HS
  rintro W1 h1
  have HS := hide h1
  clear h1
  have c1 := HS.out.c1
  have hwk : IntKind.i64.wrap (2 * k) = 2 * k := by rw [IntKind.wrap_i64]; omega
  go_wp2_with fail
  refine (refMul_any m m M M _ _ _ (HV0.out.below HS.out.bel) (HV0.out.below HS.out.bel) (by omega) (by omega)).mono ?_
  rintro e_ w2 ⟨v2_, rfl, hv2_, hb2⟩
  obtain ⟨ao2_, l2_, ca2_, rfl⟩ := hv2_.slice
  replace HS := hide (HS.out.below hb2)
  have HX := hide hv2_
  clear hb2 c1 hv2_
  have c1 := HS.out.c1
  go_upto_region 6 with fail
  refine wp_gen (fun W => RlSt neg 2 e (.slice ao1 l1 ca1) (.slice ao2 l2 ca2) w W ∧ BigV W (.slice ao2_ l2_ ca2_) (m * m) (M + M)) ⟨HS.out, HX.out⟩ ?_
  clear HS HX c1
  rintro W4 h4
  refine wp_region_grow 13 [(29, .val (.slice ao2_ l2_ ca2_)), (30, .val (.pointer (some ⟨w.heap.size, 3, none⟩))), (31, .val (.slice ao2 l2 ca2)), (32, .big ((m * m) * den) ((M + M) + K)), (33, .val (.int .i64 (2 * k))), (34, .num false (2 * k) ((m * m) * den) ((M + M) + K)), (35, .val (.pointer (some ⟨w.heap.size, 2, none⟩))), (36, .val (.slice ao1 l1 ca1)), (37, .val (.pointer (some ⟨w.heap.size, 4, none⟩))), (38, .val (.int .i64 e)), (39, .val (.agg #[.bool false, .slice ao1 l1 ca1, .int .i64 e])), (40, .val (.int .i64 (sizeZ ((m * m) * den) (2 * k) num e))), (6, .val (.int .i64 (sizeZ ((m * m) * den) (2 * k) num e)))]
    (fun W => RlSt neg 2 e (.slice ao1 l1 ca1) (.slice ao2 l2 ca2) w W ∧ BigV W (.slice ao2_ l2_ ca2_) (m * m) (M + M)) mixedOk (by kernel_rfl) (by kernel_rfl) (⟨h4.1.below (Below.refl _ _).drew, h4.2.below (Below.refl _ _).drew⟩) (fun W W' h hb => ⟨h.1.below hb, h.2.below hb⟩) ?_ ?_
  · refine gSt (gStep_run rfl (gRun_move 7 29 (.inl rfl) rfl (by decide +kernel) (fun v w h => h))) ?_
    refine gSt (gStep_run rfl ?_) ?_
    · intro ρ W hC hc hf hL
      have e5 : ρ (.tmp 5) = .pointer (some ⟨w.heap.size, 0, none⟩) := hL 5 (by decide +kernel)
      simp [go_sem, hc, hf, e5]
      exact ⟨Below.refl _ _, rfl⟩
    refine gSt (gStep_run rfl ?_) ?_
    · intro ρ W hC hc hf hL
      have e30 : ρ (.tmp 30) = .pointer (some ⟨w.heap.size, 3, none⟩) := hL 30 (by decide +kernel)
      have q3 := hC.1.c3
      simp [go_sem, hc, hf, e30, q3]
      exact ⟨Below.refl _ _, rfl⟩
    refine gSt (gStep_run rfl ?_) ?_
    · intro ρ W hC hc hf hL
      have e29 : ρ (.tmp 29) = .slice ao2_ l2_ ca2_ := hL 29 (by decide +kernel)
      have e31 : ρ (.tmp 31) = .slice ao2 l2 ca2 := hL 31 (by decide +kernel)
      simp [go_sem, hc, hf, e29, e31]
      refine (refMul_any (m * m) den (M + M) K _ _ W hC.2 (HV2.out.below hC.1.bel) (by omega) (by omega)).mono ?_
      rintro e w' ⟨v, rfl, hv, hb⟩
      exact ⟨_, rfl, hb, hv⟩
    refine gSt (gStep_run rfl (gRun_move 8 33 (.inl rfl) rfl (by decide +kernel) (fun v w h => h))) ?_
    refine gSt (gStep_run rfl ?_) ?_
    · intro ρ W hC hc hf hL
      have b32 : BigV W (ρ (.tmp 32)) (((m * m) * den)) (((M + M) + K)) := hL 32 (by decide +kernel)
      have e33 : ρ (.tmp 33) = .int .i64 (2 * k) := hL 33 (by decide +kernel)
      obtain ⟨ao9, l9, ca9, e32⟩ := BigV.slice b32
      have b9 : BigV W (ρ (.tmp 32)) ((m * m) * den) ((M + M) + K) := b32
      rw [e32] at b9
      simp [go_sem, hc, hf, e33, e32]
      exact ⟨Below.refl _ _, _, rfl, b9⟩
    refine gSt (gStep_run rfl ?_) ?_
    · intro ρ W hC hc hf hL
      have e5 : ρ (.tmp 5) = .pointer (some ⟨w.heap.size, 0, none⟩) := hL 5 (by decide +kernel)
      simp [go_sem, hc, hf, e5]
      exact ⟨Below.refl _ _, rfl⟩
    refine gSt (gStep_run rfl ?_) ?_
    · intro ρ W hC hc hf hL
      have e35 : ρ (.tmp 35) = .pointer (some ⟨w.heap.size, 2, none⟩) := hL 35 (by decide +kernel)
      have q2 := hC.1.c2
      simp [go_sem, hc, hf, e35, q2]
      exact ⟨Below.refl _ _, rfl⟩
    refine gSt (gStep_run rfl ?_) ?_
    · intro ρ W hC hc hf hL
      have e5 : ρ (.tmp 5) = .pointer (some ⟨w.heap.size, 0, none⟩) := hL 5 (by decide +kernel)
      simp [go_sem, hc, hf, e5]
      exact ⟨Below.refl _ _, rfl⟩
    refine gSt (gStep_run rfl ?_) ?_
    · intro ρ W hC hc hf hL
      have e37 : ρ (.tmp 37) = .pointer (some ⟨w.heap.size, 4, none⟩) := hL 37 (by decide +kernel)
      have q4 := hC.1.c4
      simp [go_sem, hc, hf, e37, q4]
      exact ⟨Below.refl _ _, rfl⟩
    refine gSt (gStep_run rfl ?_) ?_
    · intro ρ W hC hc hf hL
      have e36 : ρ (.tmp 36) = .slice ao1 l1 ca1 := hL 36 (by decide +kernel)
      have e38 : ρ (.tmp 38) = .int .i64 e := hL 38 (by decide +kernel)
      simp [go_sem, hc, hf, e36, e38]
      exact ⟨Below.refl _ _, rfl⟩
    refine gSt (gStep_run rfl ?_) ?_
    · intro ρ W hC hc hf hL
      have b34 := hL 34 (by decide +kernel)
      have e39 : ρ (.tmp 39) = .agg #[.bool false, .slice ao1 l1 ca1, .int .i64 e] := hL 39 (by decide +kernel)
      simp [go_sem, hc, hf, e39]
      refine (HSZ.out _ _ W b34 ⟨_, rfl, (HV1.out.below hC.1.bel).mono (by omega)⟩).mono ?_
      rintro e w' ⟨rfl, hb⟩
      exact ⟨_, rfl, by first | exact hb | (subst hb; exact Below.refl _ _), rfl⟩
    refine gSt (gStep_run rfl (gRun_move 40 6 (.inr rfl) rfl (by decide +kernel) (fun v w h => h))) ?_
    exact gSt0
  · intro W hC
    refine gFi 29 rfl ?_
    rintro _ rfl
    refine gFi 30 rfl ?_
    rintro _ rfl
    refine gFi 31 rfl ?_
    rintro _ rfl
    refine gFi 32 rfl ?_
    rintro u32 b32
    refine gFi 33 rfl ?_
    rintro _ rfl
    refine gFi 34 rfl ?_
    rintro u34 b34
    refine gFi 35 rfl ?_
    rintro _ rfl
    refine gFi 36 rfl ?_
    rintro _ rfl
    refine gFi 37 rfl ?_
    rintro _ rfl
    refine gFi 38 rfl ?_
    rintro _ rfl
    refine gFi 39 rfl ?_
    rintro _ rfl
    refine gFi 40 rfl ?_
    rintro _ rfl
    refine gFi 6 rfl ?_
    rintro _ rfl
    refine gFi0 ?_
    simp only [List.drop_succ_cons, List.drop_zero, Act.put, List.setIfInBounds_toArray, List.set_cons_succ, List.set_cons_zero]
    have HB := hide hC.1.bel
    clear hC h4 b32 b34
    go_wp2
    go_ret
    exact ⟨rfl, HB.out⟩

set_option maxHeartbeats 4000000 in
theorem rcmp_3 (neg : Bool) (e k : Int) (ao0 ao1 ao2 : Option Addr) (l0 ca0 l1 ca1 l2 ca2 m num den M K : Nat) (hm : Go.bitLen m ≤ 5000) (hn : Go.bitLen num ≤ 5000) (hd : Go.bitLen den ≤ 5000) (hM : M ≤ 10000) (hK : K ≤ 10000) (hk : -10000000 ≤ k ∧ k ≤ 10000000) (he : -10000000 ≤ e ∧ e ≤ 10000000) (w : World)
    (hv0 : BigV w (.slice ao0 l0 ca0) m M) (hv1 : BigV w (.slice ao1 l1 ca1) num K) (hv2 : BigV w (.slice ao2 l2 ca2) den K) :
    Calls Tryz.prog 62 #[.slice ao0 l0 ca0, .int .i64 k, .agg #[.bool neg, .int .i64 3, .slice ao1 l1 ca1, .slice ao2 l2 ca2, .int .i64 e]] w fun e' w' => e' = .returned (.int .i64 (sizeZ ((m * (m * m)) * den) (3 * k) num e)) ∧ Below w.heap.size w w' := by
  have HS := hide (rlSt_start neg 3 e (.slice ao1 l1 ca1) (.slice ao2 l2 ca2) w 45)
  have HV0 := hide hv0
  have HV1 := hide hv1
  have HV2 := hide hv2
  have h2 := len_mul m m
  have h3 := len_mul m (m * m)
  have h4 := len_mul (m * (m * m)) den
  have HSZ := hide (fun u v w hu hv => refSizeG false false ((m * (m * m)) * den) num ((M + (M + M)) + K) (3 * k) e u v w hu hv (by omega) (by omega) (by omega) (by omega) (by omega))
  clear hv0 hv1 hv2 hm hn hd h2 h3 h4
  go_enter Tryz.func62, Tryz.ntmps62
  go_upto_region 1 with fail
  refine wp_gen (fun W => RlSt neg 3 e (.slice ao1 l1 ca1) (.slice ao2 l2 ca2) w W) HS.out ?_
  clear HS
  rintro W1 h1
  have HS := hide h1
  clear h1
  have c1 := HS.out.c1
  have hwk : IntKind.i64.wrap (3 * k) = 3 * k := by rw [IntKind.wrap_i64]; omega
  go_wp2_with fail
  refine (refMul_any m m M M _ _ _ (HV0.out.below HS.out.bel) (HV0.out.below HS.out.bel) (by omega) (by omega)).mono ?_
  rintro e_ w2 ⟨v2_, rfl, hv2_, hb2⟩
  obtain ⟨ao2_, l2_, ca2_, rfl⟩ := hv2_.slice
  replace HS := hide (HS.out.below hb2)
  have HX := hide hv2_
  clear hb2 c1 hv2_
  have c1 := HS.out.c1
  go_wp2_with fail
  refine (refMul_any m (m * m) M (M + M) _ _ _ (HV0.out.below HS.out.bel) HX.out (by omega) (by omega)).mono ?_
  rintro e_ w3 ⟨v3_, rfl, hv3_, hb3⟩
  obtain ⟨ao3_, l3_, ca3_, rfl⟩ := hv3_.slice
  replace HS := hide (HS.out.below hb3)
  replace HX := hide hv3_
  clear hb3 c1 hv3_
  go_upto_region 6 with fail
  refine wp_gen (fun W => RlSt neg 3 e (.slice ao1 l1 ca1) (.slice ao2 l2 ca2) w W ∧ BigV W (.slice ao3_ l3_ ca3_) (m * (m * m)) (M + (M + M))) ⟨HS.out, HX.out⟩ ?_
  clear HS HX
  rintro W4 h4
  refine wp_region_grow 13 [(29, .val (.slice ao3_ l3_ ca3_)), (30, .val (.pointer (some ⟨w.heap.size, 3, none⟩))), (31, .val (.slice ao2 l2 ca2)), (32, .big ((m * (m * m)) * den) ((M + (M + M)) + K)), (33, .val (.int .i64 (3 * k))), (34, .num false (3 * k) ((m * (m * m)) * den) ((M + (M + M)) + K)), (35, .val (.pointer (some ⟨w.heap.size, 2, none⟩))), (36, .val (.slice ao1 l1 ca1)), (37, .val (.pointer (some ⟨w.heap.size, 4, none⟩))), (38, .val (.int .i64 e)), (39, .val (.agg #[.bool false, .slice ao1 l1 ca1, .int .i64 e])), (40, .val (.int .i64 (sizeZ ((m * (m * m)) * den) (3 * k) num e))), (6, .val (.int .i64 (sizeZ ((m * (m * m)) * den) (3 * k) num e)))]
    (fun W => RlSt neg 3 e (.slice ao1 l1 ca1) (.slice ao2 l2 ca2) w W ∧ BigV W (.slice ao3_ l3_ ca3_) (m * (m * m)) (M + (M + M))) mixedOk (by kernel_rfl) (by kernel_rfl) (⟨h4.1.below (Below.refl _ _).drew, h4.2.below (Below.refl _ _).drew⟩) (fun W W' h hb => ⟨h.1.below hb, h.2.below hb⟩) ?_ ?_
  · refine gSt (gStep_run rfl (gRun_move 7 29 (.inl rfl) rfl (by decide +kernel) (fun v w h => h))) ?_
    refine gSt (gStep_run rfl ?_) ?_
    · intro ρ W hC hc hf hL
      have e5 : ρ (.tmp 5) = .pointer (some ⟨w.heap.size, 0, none⟩) := hL 5 (by decide +kernel)
      simp [go_sem, hc, hf, e5]
      exact ⟨Below.refl _ _, rfl⟩
    refine gSt (gStep_run rfl ?_) ?_
    · intro ρ W hC hc hf hL
      have e30 : ρ (.tmp 30) = .pointer (some ⟨w.heap.size, 3, none⟩) := hL 30 (by decide +kernel)
      have q3 := hC.1.c3
      simp [go_sem, hc, hf, e30, q3]
      exact ⟨Below.refl _ _, rfl⟩
    refine gSt (gStep_run rfl ?_) ?_
    · intro ρ W hC hc hf hL
      have e29 : ρ (.tmp 29) = .slice ao3_ l3_ ca3_ := hL 29 (by decide +kernel)
      have e31 : ρ (.tmp 31) = .slice ao2 l2 ca2 := hL 31 (by decide +kernel)
      simp [go_sem, hc, hf, e29, e31]
      refine (refMul_any (m * (m * m)) den (M + (M + M)) K _ _ W hC.2 (HV2.out.below hC.1.bel) (by omega) (by omega)).mono ?_
      rintro e w' ⟨v, rfl, hv, hb⟩
      exact ⟨_, rfl, hb, hv⟩
    refine gSt (gStep_run rfl (gRun_move 8 33 (.inl rfl) rfl (by decide +kernel) (fun v w h => h))) ?_
    refine gSt (gStep_run rfl ?_) ?_
    · intro ρ W hC hc hf hL
      have b32 : BigV W (ρ (.tmp 32)) (((m * (m * m)) * den)) (((M + (M + M)) + K)) := hL 32 (by decide +kernel)
      have e33 : ρ (.tmp 33) = .int .i64 (3 * k) := hL 33 (by decide +kernel)
      obtain ⟨ao9, l9, ca9, e32⟩ := BigV.slice b32
      have b9 : BigV W (ρ (.tmp 32)) ((m * (m * m)) * den) ((M + (M + M)) + K) := b32
      rw [e32] at b9
      simp [go_sem, hc, hf, e33, e32]
      exact ⟨Below.refl _ _, _, rfl, b9⟩
    refine gSt (gStep_run rfl ?_) ?_
    · intro ρ W hC hc hf hL
      have e5 : ρ (.tmp 5) = .pointer (some ⟨w.heap.size, 0, none⟩) := hL 5 (by decide +kernel)
      simp [go_sem, hc, hf, e5]
      exact ⟨Below.refl _ _, rfl⟩
    refine gSt (gStep_run rfl ?_) ?_
    · intro ρ W hC hc hf hL
      have e35 : ρ (.tmp 35) = .pointer (some ⟨w.heap.size, 2, none⟩) := hL 35 (by decide +kernel)
      have q2 := hC.1.c2
      simp [go_sem, hc, hf, e35, q2]
      exact ⟨Below.refl _ _, rfl⟩
    refine gSt (gStep_run rfl ?_) ?_
    · intro ρ W hC hc hf hL
      have e5 : ρ (.tmp 5) = .pointer (some ⟨w.heap.size, 0, none⟩) := hL 5 (by decide +kernel)
      simp [go_sem, hc, hf, e5]
      exact ⟨Below.refl _ _, rfl⟩
    refine gSt (gStep_run rfl ?_) ?_
    · intro ρ W hC hc hf hL
      have e37 : ρ (.tmp 37) = .pointer (some ⟨w.heap.size, 4, none⟩) := hL 37 (by decide +kernel)
      have q4 := hC.1.c4
      simp [go_sem, hc, hf, e37, q4]
      exact ⟨Below.refl _ _, rfl⟩
    refine gSt (gStep_run rfl ?_) ?_
    · intro ρ W hC hc hf hL
      have e36 : ρ (.tmp 36) = .slice ao1 l1 ca1 := hL 36 (by decide +kernel)
      have e38 : ρ (.tmp 38) = .int .i64 e := hL 38 (by decide +kernel)
      simp [go_sem, hc, hf, e36, e38]
      exact ⟨Below.refl _ _, rfl⟩
    refine gSt (gStep_run rfl ?_) ?_
    · intro ρ W hC hc hf hL
      have b34 := hL 34 (by decide +kernel)
      have e39 : ρ (.tmp 39) = .agg #[.bool false, .slice ao1 l1 ca1, .int .i64 e] := hL 39 (by decide +kernel)
      simp [go_sem, hc, hf, e39]
      refine (HSZ.out _ _ W b34 ⟨_, rfl, (HV1.out.below hC.1.bel).mono (by omega)⟩).mono ?_
      rintro e w' ⟨rfl, hb⟩
      exact ⟨_, rfl, by first | exact hb | (subst hb; exact Below.refl _ _), rfl⟩
    refine gSt (gStep_run rfl (gRun_move 40 6 (.inr rfl) rfl (by decide +kernel) (fun v w h => h))) ?_
    exact gSt0
  · intro W hC
    refine gFi 29 rfl ?_
    rintro _ rfl
    refine gFi 30 rfl ?_
    rintro _ rfl
    refine gFi 31 rfl ?_
    rintro _ rfl
    refine gFi 32 rfl ?_
    rintro u32 b32
    refine gFi 33 rfl ?_
    rintro _ rfl
    refine gFi 34 rfl ?_
    rintro u34 b34
    refine gFi 35 rfl ?_
    rintro _ rfl
    refine gFi 36 rfl ?_
    rintro _ rfl
    refine gFi 37 rfl ?_
    rintro _ rfl
    refine gFi 38 rfl ?_
    rintro _ rfl
    refine gFi 39 rfl ?_
    rintro _ rfl
    refine gFi 40 rfl ?_
    rintro _ rfl
    refine gFi 6 rfl ?_
    rintro _ rfl
    refine gFi0 ?_
    simp only [List.drop_succ_cons, List.drop_zero, Act.put, List.setIfInBounds_toArray, List.set_cons_succ, List.set_cons_zero]
    have HB := hide hC.1.bel
    clear hC h4 b32 b34
    go_wp2
    go_ret
    exact ⟨rfl, HB.out⟩

end Go.Proofs.YtpcjdllijkjdkaaGreatDoor

/- Contracts: the document's real numbers: Top, Down, At. -/
set_option linter.unusedVariables false
set_option linter.unusedSimpArgs false
set_option maxRecDepth 8000
namespace Go.Proofs.YtpcjdllijkjdkaaGreatDoor
open Go.RowKit Plain

theorem len_dbl (x : Nat) : Go.bitLen (x * 2 ^ 1 + 1) ≤ Go.bitLen x + 1 := by
  refine (len_le _ _).2 ?_
  have h1 := len_lt x
  rw [Nat.pow_one, Nat.pow_succ]
  omega
theorem rcmp_any (kd : Nat) (hkd : kd = 1 ∨ kd = 2 ∨ kd = 3) (neg : Bool) (e k : Int) (m num den M K : Nat) (hm : Go.bitLen m ≤ 5000) (hn : Go.bitLen num ≤ 5000) (hd : Go.bitLen den ≤ 5000) (hM : M ≤ 10000) (hK : K ≤ 10000) (hk : -10000000 ≤ k ∧ k ≤ 10000000) (he : -10000000 ≤ e ∧ e ≤ 10000000) (x u : Value) (w : World)
    (hx : BigV w x m M) (hu : RlV w u neg kd num den e K) :
    Calls Tryz.prog 62 #[x, .int .i64 k, u] w fun e' w' => e' = .returned (.int .i64 (cR kd num den e m k)) ∧ Below w.heap.size w w' := by
  obtain ⟨v1, v2, rfl, h1, h2⟩ := hu
  obtain ⟨ao0, l0, ca0, rfl⟩ := hx.slice
  obtain ⟨ao1, l1, ca1, rfl⟩ := h1.slice
  obtain ⟨ao2, l2, ca2, rfl⟩ := h2.slice
  unfold cR
  rcases hkd with rfl | rfl | rfl
  · have h := rcmp_1 neg e k ao0 ao1 ao2 l0 ca0 l1 ca1 l2 ca2 m num den M K hm hn hd hM hK hk he w hx h1 h2
    rw [Nat.pow_one, show ((1 : Nat) : Int) * k = k by omega]
    exact h
  · have h := rcmp_2 neg e k ao0 ao1 ao2 l0 ca0 l1 ca1 l2 ca2 m num den M K hm hn hd hM hK hk he w hx h1 h2
    rw [Nat.pow_two]
    exact h
  · have h := rcmp_3 neg e k ao0 ao1 ao2 l0 ca0 l1 ca1 l2 ca2 m num den M K hm hn hd hM hK hk he w hx h1 h2
    rw [show m ^ 3 = m * (m * m) by rw [Nat.pow_succ, Nat.pow_two, Nat.mul_comm]]
    exact h
set_option maxHeartbeats 1000000 in
theorem floor_any (a : Int) (kd : Nat) (hkd : kd = 1 ∨ kd = 2 ∨ kd = 3) (ha : -100000000 ≤ a ∧ a ≤ 100000000) (w : World) : Calls Tryz.prog 61 #[.int .i64 a, .int .i64 (kd : Nat)] w fun e w' => e = .returned (.int .i64 (a / (kd : Int))) ∧ w' = w := by
  have h1 : ∀ b : Nat, IntKind.i64.wrap (-a) = -a ∧ (b = 1 ∨ b = 2 ∨ b = 3 → IntKind.i64.wrap (-a + (b : Int)) = -a + (b : Int) ∧ IntKind.i64.wrap (-a + (b : Int) - 1) = -a + (b : Int) - 1) := fun b => by
    rw [IntKind.wrap_i64, IntKind.wrap_i64, IntKind.wrap_i64]; omega
  by_cases hn : a < 0
  · have e1 : ∀ b : Nat, b = 1 ∨ b = 2 ∨ b = 3 → -((-a + (b : Int) - 1).tdiv (b : Int)) = a / (b : Int) ∧ IntKind.i64.wrap ((-a + (b : Int) - 1).tdiv (b : Int)) = (-a + (b : Int) - 1).tdiv (b : Int) ∧ IntKind.i64.wrap (-((-a + (b : Int) - 1).tdiv (b : Int))) = -((-a + (b : Int) - 1).tdiv (b : Int)) := fun b hb => by
      rw [Int.tdiv_eq_ediv_of_nonneg (by omega), IntKind.wrap_i64, IntKind.wrap_i64]
      rcases hb with rfl | rfl | rfl <;> omega
    have HE := hide (e1 kd hkd).1
    have w1 := (h1 kd).1
    have w2 := ((h1 kd).2 hkd).1
    have w3 := ((h1 kd).2 hkd).2
    have w4 := (e1 kd hkd).2.1
    have w5 := (e1 kd hkd).2.2
    have hb0 : ((kd : Int) == 0) = false := by rw [beq_eq_false_iff_ne]; omega
    have hb1 : ¬ (kd : Int) = 0 := by omega
    clear e1 h1
    go_enter Tryz.func61, Tryz.ntmps61
    go_wp2
    go_ret
    exact ⟨ret_in HE.out, rfl⟩
  · have HE := hide (show a.tdiv (kd : Int) = a / (kd : Int) from Int.tdiv_eq_ediv_of_nonneg (by omega))
    have w4 : IntKind.i64.wrap (a.tdiv (kd : Int)) = a.tdiv (kd : Int) := by
      rw [HE.out, IntKind.wrap_i64]
      rcases hkd with rfl | rfl | rfl <;> omega
    have hb0 : ((kd : Int) == 0) = false := by rw [beq_eq_false_iff_ne]; omega
    have hb1 : ¬ (kd : Int) = 0 := by omega
    clear h1
    go_enter Tryz.func61, Tryz.ntmps61
    go_wp2
    go_ret
    exact ⟨ret_in HE.out, rfl⟩

set_option maxHeartbeats 4000000 in
theorem rtop_any (kd : Nat) (hkd : kd = 1 ∨ kd = 2 ∨ kd = 3) (neg : Bool) (e : Int) (num den K : Nat) (hn : Go.bitLen num ≤ 5000) (hd : Go.bitLen den ≤ 5000) (hK : K ≤ 10000) (he : -5000000 ≤ e ∧ e ≤ 5000000) (T T0 : Int) (hT0 : T0 = ((Go.bitLen num : Int) + e - (Go.bitLen den : Int)) / (kd : Int) + 3) (hT : T ≤ T0 ∧ T0 ≤ T + 100000) (hle : cR kd num den e 1 T ≤ 0) (hgt : ∀ z, T < z → z ≤ T0 → 0 < cR kd num den e 1 z) (u : Value) (w : World) (hu : RlV w u neg kd num den e K) :
    Calls Tryz.prog 34 #[u] w fun e' w' => e' = .returned (.int .i64 T) ∧ Below w.heap.size w w' := by
  obtain ⟨v1, v2, rfl, hv1, hv2⟩ := hu
  obtain ⟨ao1, l1, ca1, rfl⟩ := hv1.slice
  obtain ⟨ao2, l2, ca2, rfl⟩ := hv2.slice
  have HS := hide (rlSt_start neg (kd : Nat) e (.slice ao1 l1 ca1) (.slice ao2 l2 ca2) w 45)
  have HRV : Hid (∀ W, Below w.heap.size w W → RlV W (.agg #[.bool neg, .int .i64 (kd : Nat), .slice ao1 l1 ca1, .slice ao2 l2 ca2, .int .i64 e]) neg kd num den e K) := fun W hb => ⟨_, _, rfl, hv1.below hb, hv2.below hb⟩
  have HL1 := hide (fun W (hb : Below w.heap.size w W) => refLen_any num K _ W (hv1.below hb) (by omega))
  have HL2 := hide (fun W (hb : Below w.heap.size w W) => refLen_any den K _ W (hv2.below hb) (by omega))
  have hq : -6000000 ≤ ((Go.bitLen num : Int) + e - (Go.bitLen den : Int)) / (kd : Int) ∧ ((Go.bitLen num : Int) + e - (Go.bitLen den : Int)) / (kd : Int) ≤ 6000000 := by rcases hkd with rfl | rfl | rfl <;> omega
  have HFL := hide (fun W => floor_any ((Go.bitLen num : Int) + e - (Go.bitLen den : Int)) kd hkd (by omega) W)
  have HCM := hide (fun z (hz : -9000000 ≤ z ∧ z ≤ 9000000) x W hx hu => rcmp_any kd hkd neg e z 1 num den 2 K (by decide) hn hd (by decide) hK (by omega) (by omega) x (.agg #[.bool neg, .int .i64 (kd : Nat), .slice ao1 l1 ca1, .slice ao2 l2 ca2, .int .i64 e]) W hx hu)
  have HLE := hide hle
  have HGT := hide hgt
  have HTB := hide hT
  have HT0 := hide hT0
  have hT0b : -7000000 ≤ T0 ∧ T0 ≤ 7000000 := by omega
  have hTb : -8000000 ≤ T := by omega
  clear hle hgt hT0 hv1 hv2 hT
  have hln : (Go.bitLen num : Int) ≤ 5000 := by omega
  have hld : (Go.bitLen den : Int) ≤ 5000 := by omega
  generalize Go.bitLen num = ln at *
  generalize Go.bitLen den = ld at *
  obtain ⟨fl, hfl⟩ : ∃ fl, ((ln : Int) + e - (ld : Int)) / (kd : Int) = fl := ⟨_, rfl⟩
  rw [hfl] at HFL HT0 hq
  clear hfl hn hd
  go_enter Tryz.func34, Tryz.ntmps34
  go_upto_region 1 with fail
  refine wp_gen (fun W => RlSt neg (kd : Nat) e (.slice ao1 l1 ca1) (.slice ao2 l2 ca2) w W) HS.out ?_
  clear HS
  rintro W1 h1
  refine wp_region_grow 11 [(4, .val (.pointer (some ⟨w.heap.size, 2, none⟩))), (5, .val (.slice ao1 l1 ca1)), (6, .val (.int .i64 (ln : Nat))), (7, .val (.pointer (some ⟨w.heap.size, 4, none⟩))), (8, .val (.int .i64 e)), (9, .val (.int .i64 ((ln : Int) + e))), (10, .val (.pointer (some ⟨w.heap.size, 3, none⟩))), (11, .val (.slice ao2 l2 ca2)), (12, .val (.int .i64 (ld : Nat))), (13, .val (.int .i64 ((ln : Int) + e - (ld : Int)))), (3, .val (.int .i64 ((ln : Int) + e - (ld : Int))))]
    (fun W => RlSt neg (kd : Nat) e (.slice ao1 l1 ca1) (.slice ao2 l2 ca2) w W) mixedOk (by kernel_rfl) (by kernel_rfl) (h1.below (Below.refl _ _).drew) (fun W W' h hb => h.below hb) ?_ ?_
  · refine gSt (gStep_run rfl ?_) ?_
    · intro ρ W hC hc hf hL
      have e1 : ρ (.tmp 1) = .pointer (some ⟨w.heap.size, 0, none⟩) := hL 1 (by decide +kernel)
      simp [go_sem, hc, hf, e1]
      exact ⟨Below.refl _ _, rfl⟩
    refine gSt (gStep_run rfl ?_) ?_
    · intro ρ W hC hc hf hL
      have e4 : ρ (.tmp 4) = .pointer (some ⟨w.heap.size, 2, none⟩) := hL 4 (by decide +kernel)
      have q2 := hC.c2
      simp [go_sem, hc, hf, e4, q2]
      exact ⟨Below.refl _ _, rfl⟩
    refine gSt (gStep_run rfl ?_) ?_
    · intro ρ W hC hc hf hL
      have e5 : ρ (.tmp 5) = .slice ao1 l1 ca1 := hL 5 (by decide +kernel)
      simp [go_sem, hc, hf, e5]
      refine (HL1.out W hC.bel).mono ?_
      rintro e w' ⟨rfl, hb⟩
      exact ⟨_, rfl, by first | exact hb | (subst hb; exact Below.refl _ _), rfl⟩
    refine gSt (gStep_run rfl ?_) ?_
    · intro ρ W hC hc hf hL
      have e1 : ρ (.tmp 1) = .pointer (some ⟨w.heap.size, 0, none⟩) := hL 1 (by decide +kernel)
      simp [go_sem, hc, hf, e1]
      exact ⟨Below.refl _ _, rfl⟩
    refine gSt (gStep_run rfl ?_) ?_
    · intro ρ W hC hc hf hL
      have e7 : ρ (.tmp 7) = .pointer (some ⟨w.heap.size, 4, none⟩) := hL 7 (by decide +kernel)
      have q4 := hC.c4
      simp [go_sem, hc, hf, e7, q4]
      exact ⟨Below.refl _ _, rfl⟩
    refine gSt (gStep_run rfl ?_) ?_
    · intro ρ W hC hc hf hL
      have e6 : ρ (.tmp 6) = .int .i64 (ln : Nat) := hL 6 (by decide +kernel)
      have e8 : ρ (.tmp 8) = .int .i64 e := hL 8 (by decide +kernel)
      have hw : IntKind.i64.wrap ((ln : Int) + e) = (ln : Int) + e := by rw [IntKind.wrap_i64]; omega
      simp [go_sem, hc, hf, e6, e8, hw]
      exact ⟨Below.refl _ _, rfl⟩
    refine gSt (gStep_run rfl ?_) ?_
    · intro ρ W hC hc hf hL
      have e1 : ρ (.tmp 1) = .pointer (some ⟨w.heap.size, 0, none⟩) := hL 1 (by decide +kernel)
      simp [go_sem, hc, hf, e1]
      exact ⟨Below.refl _ _, rfl⟩
    refine gSt (gStep_run rfl ?_) ?_
    · intro ρ W hC hc hf hL
      have e10 : ρ (.tmp 10) = .pointer (some ⟨w.heap.size, 3, none⟩) := hL 10 (by decide +kernel)
      have q3 := hC.c3
      simp [go_sem, hc, hf, e10, q3]
      exact ⟨Below.refl _ _, rfl⟩
    refine gSt (gStep_run rfl ?_) ?_
    · intro ρ W hC hc hf hL
      have e11 : ρ (.tmp 11) = .slice ao2 l2 ca2 := hL 11 (by decide +kernel)
      simp [go_sem, hc, hf, e11]
      refine (HL2.out W hC.bel).mono ?_
      rintro e w' ⟨rfl, hb⟩
      exact ⟨_, rfl, by first | exact hb | (subst hb; exact Below.refl _ _), rfl⟩
    refine gSt (gStep_run rfl ?_) ?_
    · intro ρ W hC hc hf hL
      have e9 : ρ (.tmp 9) = .int .i64 ((ln : Int) + e) := hL 9 (by decide +kernel)
      have e12 : ρ (.tmp 12) = .int .i64 (ld : Nat) := hL 12 (by decide +kernel)
      have hw : IntKind.i64.wrap ((ln : Int) + e - (ld : Int)) = (ln : Int) + e - (ld : Int) := by rw [IntKind.wrap_i64]; omega
      simp [go_sem, hc, hf, e9, e12, hw]
      exact ⟨Below.refl _ _, rfl⟩
    refine gSt (gStep_run rfl (gRun_move 13 3 (.inr rfl) rfl (by decide +kernel) (fun v w h => h))) ?_
    exact gSt0
  · intro W hC
    refine gFi 4 rfl ?_
    rintro _ rfl
    refine gFi 5 rfl ?_
    rintro _ rfl
    refine gFi 6 rfl ?_
    rintro _ rfl
    refine gFi 7 rfl ?_
    rintro _ rfl
    refine gFi 8 rfl ?_
    rintro _ rfl
    refine gFi 9 rfl ?_
    rintro _ rfl
    refine gFi 10 rfl ?_
    rintro _ rfl
    refine gFi 11 rfl ?_
    rintro _ rfl
    refine gFi 12 rfl ?_
    rintro _ rfl
    refine gFi 13 rfl ?_
    rintro _ rfl
    refine gFi 3 rfl ?_
    rintro _ rfl
    refine gFi0 ?_
    simp only [List.drop_succ_cons, List.drop_zero, Act.put, List.setIfInBounds_toArray, List.set_cons_succ, List.set_cons_zero]
    have HS := hide hC
    clear hC h1
    have q1 := HS.out.c1
    go_wp2_with fail
    refine (HFL.out _).mono ?_
    rintro e_ wl ⟨rfl, hw⟩
    subst wl
    have hw3 : IntKind.i64.wrap (fl + 3) = fl + 3 := by rw [IntKind.wrap_i64]; omega
    clear q1
    go_wp2_with fail
    go_loopw [3] (fun i wr => ∃ z : Int, i = .int .i64 z ∧ Hid (T ≤ z ∧ z ≤ T0) ∧ Hid (RlSt neg (kd : Nat) e (.slice ao1 l1 ca1) (.slice ao2 l2 ca2) w wr)) (fun i _ => (intOf i - T).toNat)
    case atStart => exact ⟨_, rfl, hide (by have := HT0.out; have := HTB.out; omega), HS⟩
    case round =>
      clear HS
      obtain ⟨z, rfl, hz, hst⟩ := hrel
      have hz2 := hz.out
      have HCZ := hide (HCM.out z (by omega))
      have HGZ := hide (HGT.out z)
      have HLZ : Hid (z = T → cR kd num den e 1 z ≤ 0) := fun h => by subst h; exact HLE.out
      go_upto_region 3 with fail
      refine wp_gen (fun W => RlSt neg (kd : Nat) e (.slice ao1 l1 ca1) (.slice ao2 l2 ca2) w W) hst.out ?_
      clear hst hw3
      rintro W3 h3
      generalize cR kd num den e 1 z = c at *
      by_cases hcg : (0 : Int) < c
      · have hcg2 : decide ((0 : Int) < c) = true := decide_eq_true hcg
        have hzT : z ≠ T := fun h => by have := HLZ.out h; omega
        refine wp_region_grow 5 [(19, .big 1 2), (20, .val (.int .i64 z)), (21, .val (.agg #[.bool neg, .int .i64 (kd : Nat), .slice ao1 l1 ca1, .slice ao2 l2 ca2, .int .i64 e])), (22, .val (.int .i64 c)), (23, .val (.bool true))]
          (fun W => RlSt neg (kd : Nat) e (.slice ao1 l1 ca1) (.slice ao2 l2 ca2) w W) mixedOk (by kernel_rfl) (by kernel_rfl) (h3.below (Below.refl _ _).drew) (fun W W' h hb => h.below hb) ?_ ?_
        · refine gSt (gStep_run rfl ?_) ?_
          · intro ρ W hC hc hf hL
            simp [go_sem, hc, hf]
            refine (small_any 1 (by decide) W).mono ?_
            rintro e w' ⟨v, rfl, hv, hb⟩
            exact ⟨_, rfl, hb, hv⟩
          refine gSt (gStep_run rfl (gRun_move 3 20 (.inl rfl) rfl (by decide +kernel) (fun v w h => h))) ?_
          refine gSt (gStep_run rfl ?_) ?_
          · intro ρ W hC hc hf hL
            have e1 : ρ (.tmp 1) = .pointer (some ⟨w.heap.size, 0, none⟩) := hL 1 (by decide +kernel)
            have q0 := hC.c0
            have q1 := hC.c1
            have q2 := hC.c2
            have q3 := hC.c3
            have q4 := hC.c4
            simp [go_sem, hc, hf, e1, q0, q1, q2, q3, q4]
            exact ⟨Below.refl _ _, rfl⟩
          refine gSt (gStep_run rfl ?_) ?_
          · intro ρ W hC hc hf hL
            have b19 : BigV W (ρ (.tmp 19)) (1) (2) := hL 19 (by decide +kernel)
            have e20 : ρ (.tmp 20) = .int .i64 z := hL 20 (by decide +kernel)
            have e21 : ρ (.tmp 21) = .agg #[.bool neg, .int .i64 (kd : Nat), .slice ao1 l1 ca1, .slice ao2 l2 ca2, .int .i64 e] := hL 21 (by decide +kernel)
            simp [go_sem, hc, hf, e20, e21]
            refine (HCZ.out _ W b19 (HRV.out W hC.bel)).mono ?_
            rintro e w' ⟨rfl, hb⟩
            exact ⟨_, rfl, by first | exact hb | (subst hb; exact Below.refl _ _), rfl⟩
          refine gSt (gStep_run rfl ?_) ?_
          · intro ρ W hC hc hf hL
            have e22 : ρ (.tmp 22) = .int .i64 c := hL 22 (by decide +kernel)
            simp [go_sem, hc, hf, e22, hcg, hcg2]
            exact ⟨Below.refl _ _, rfl⟩
          exact gSt0
        · intro W hC
          refine gFi 19 rfl ?_
          rintro u19 b19
          refine gFi 20 rfl ?_
          rintro _ rfl
          refine gFi 21 rfl ?_
          rintro _ rfl
          refine gFi 22 rfl ?_
          rintro _ rfl
          refine gFi 23 rfl ?_
          rintro _ rfl
          refine gFi0 ?_
          simp only [List.drop_succ_cons, List.drop_zero, Act.put, List.setIfInBounds_toArray, List.set_cons_succ, List.set_cons_zero]
          have HS := hide hC
          clear hC h3 b19
          have hw : IntKind.i64.wrap (z - 1) = z - 1 := by rw [IntKind.wrap_i64]; omega
          go_wp2
          go_roundw
          case rel => exact ⟨z - 1, rfl, hide (by omega), HS⟩
          case measure =>
            show ((z - 1) - T).toNat < (z - T).toNat
            omega
      · have hcg2 : decide ((0 : Int) < c) = false := decide_eq_false hcg
        have HZT : Hid (z = T) := by
          unfold Hid
          rcases Int.lt_or_eq_of_le hz2.1 with h | h
          · exact absurd (HGZ.out h hz2.2) hcg
          · exact h.symm
        refine wp_region_grow 5 [(19, .big 1 2), (20, .val (.int .i64 z)), (21, .val (.agg #[.bool neg, .int .i64 (kd : Nat), .slice ao1 l1 ca1, .slice ao2 l2 ca2, .int .i64 e])), (22, .val (.int .i64 c)), (23, .val (.bool false))]
          (fun W => RlSt neg (kd : Nat) e (.slice ao1 l1 ca1) (.slice ao2 l2 ca2) w W) mixedOk (by kernel_rfl) (by kernel_rfl) (h3.below (Below.refl _ _).drew) (fun W W' h hb => h.below hb) ?_ ?_
        · refine gSt (gStep_run rfl ?_) ?_
          · intro ρ W hC hc hf hL
            simp [go_sem, hc, hf]
            refine (small_any 1 (by decide) W).mono ?_
            rintro e w' ⟨v, rfl, hv, hb⟩
            exact ⟨_, rfl, hb, hv⟩
          refine gSt (gStep_run rfl (gRun_move 3 20 (.inl rfl) rfl (by decide +kernel) (fun v w h => h))) ?_
          refine gSt (gStep_run rfl ?_) ?_
          · intro ρ W hC hc hf hL
            have e1 : ρ (.tmp 1) = .pointer (some ⟨w.heap.size, 0, none⟩) := hL 1 (by decide +kernel)
            have q0 := hC.c0
            have q1 := hC.c1
            have q2 := hC.c2
            have q3 := hC.c3
            have q4 := hC.c4
            simp [go_sem, hc, hf, e1, q0, q1, q2, q3, q4]
            exact ⟨Below.refl _ _, rfl⟩
          refine gSt (gStep_run rfl ?_) ?_
          · intro ρ W hC hc hf hL
            have b19 : BigV W (ρ (.tmp 19)) (1) (2) := hL 19 (by decide +kernel)
            have e20 : ρ (.tmp 20) = .int .i64 z := hL 20 (by decide +kernel)
            have e21 : ρ (.tmp 21) = .agg #[.bool neg, .int .i64 (kd : Nat), .slice ao1 l1 ca1, .slice ao2 l2 ca2, .int .i64 e] := hL 21 (by decide +kernel)
            simp [go_sem, hc, hf, e20, e21]
            refine (HCZ.out _ W b19 (HRV.out W hC.bel)).mono ?_
            rintro e w' ⟨rfl, hb⟩
            exact ⟨_, rfl, by first | exact hb | (subst hb; exact Below.refl _ _), rfl⟩
          refine gSt (gStep_run rfl ?_) ?_
          · intro ρ W hC hc hf hL
            have e22 : ρ (.tmp 22) = .int .i64 c := hL 22 (by decide +kernel)
            simp [go_sem, hc, hf, e22, hcg, hcg2]
            exact ⟨Below.refl _ _, rfl⟩
          exact gSt0
        · intro W hC
          refine gFi 19 rfl ?_
          rintro u19 b19
          refine gFi 20 rfl ?_
          rintro _ rfl
          refine gFi 21 rfl ?_
          rintro _ rfl
          refine gFi 22 rfl ?_
          rintro _ rfl
          refine gFi 23 rfl ?_
          rintro _ rfl
          refine gFi0 ?_
          simp only [List.drop_succ_cons, List.drop_zero, Act.put, List.setIfInBounds_toArray, List.set_cons_succ, List.set_cons_zero]
          have HB := hide hC.bel
          clear hC h3 b19
          go_wp2
          go_ret
          exact ⟨ret_in HZT.out, HB.out⟩
    

set_option maxHeartbeats 4000000 in
theorem rdown_any (kd : Nat) (hkd : kd = 1 ∨ kd = 2 ∨ kd = 3) (neg : Bool) (e P : Int) (num den K Mn D : Nat) (hn : Go.bitLen num ≤ 5000) (hd : Go.bitLen den ≤ 5000) (hK : K ≤ 10000) (he : -5000000 ≤ e ∧ e ≤ 5000000) (hP : -5000000 ≤ P ∧ P ≤ 5000000) (hMn : Mn ≤ 600)
    (hmo : ∀ a b, a ≤ b → b < 2 ^ Mn → decide (cR kd num den e b P ≤ 0) = true → decide (cR kd num den e a P ≤ 0) = true) (hD : FInv (fun y => decide (cR kd num den e y P ≤ 0)) Mn 0 D) (r : Int)
    (hr : r = if cR kd num den e D P = 0 then 0 else 2 - max (-1) (min 1 (cR kd num den e (D * 2 ^ 1 + 1) (P - 1)))) (u : Value) (w : World) (hu : RlV w u neg kd num den e K) :
    Calls Tryz.prog 63 #[u, .int .i64 P, .int .i64 (Mn : Nat)] w fun e' w' => ∃ v, e' = .returned (.tuple #[v, .int .i64 r]) ∧ BigV w' v D 700 ∧ Below w.heap.size w w' := by
  obtain ⟨v1, v2, rfl, hv1, hv2⟩ := hu
  obtain ⟨ao1, l1, ca1, rfl⟩ := hv1.slice
  obtain ⟨ao2, l2, ca2, rfl⟩ := hv2.slice
  have HS := hide (rlSt_start neg (kd : Nat) e (.slice ao1 l1 ca1) (.slice ao2 l2 ca2) w 45)
  have HRV : Hid (∀ W, Below w.heap.size w W → RlV W (.agg #[.bool neg, .int .i64 (kd : Nat), .slice ao1 l1 ca1, .slice ao2 l2 ca2, .int .i64 e]) neg kd num den e K) := fun W hb => ⟨_, _, rfl, hv1.below hb, hv2.below hb⟩
  have HCM := hide (fun y (hy : Go.bitLen y ≤ 5000) z (hz : -9000000 ≤ z ∧ z ≤ 9000000) x W hx hu => rcmp_any kd hkd neg e z y num den 1000 K hy hn hd (by decide) hK (by omega) (by omega) x (.agg #[.bool neg, .int .i64 (kd : Nat), .slice ao1 l1 ca1, .slice ao2 l2 ca2, .int .i64 e]) W hx hu)
  have HMO := hide hmo
  have HDD := hide hD
  have HR := hide hr
  have HI0 : Hid (FInv (fun y => decide (cR kd num den e y P ≤ 0)) Mn Mn 0) := ⟨Nat.zero_mod _, Nat.two_pow_pos _, hmo 0 D (Nat.zero_le _) hD.2.1 hD.2.2.1, fun y h1 h2 => by omega⟩
  have hDl : Go.bitLen D ≤ 600 := Nat.le_trans ((len_le D Mn).2 hD.2.1) hMn
  clear hmo hD hr hv1 hv2 hn hd
  go_enter Tryz.func63, Tryz.ntmps63
  go_upto_region 1 with fail
  refine wp_gen (fun W => RlSt neg (kd : Nat) e (.slice ao1 l1 ca1) (.slice ao2 l2 ca2) w W) HS.out ?_
  clear HS
  rintro W1 h1
  have HB0 := hide (show BigV (W1.alloc (.cells #[] 61)) (.slice (some ⟨W1.heap.size, 0, none⟩) 0 0) 0 30 from ⟨[], Rd.lit (mk := mk32) W1 61 [] [] rfl 0 (Nat.le_refl _) (by decide), dig_nil, .inl rfl, by decide⟩)
  have HS := hide (h1.below (below_allocs W1 (.cells #[] 61)))
  clear h1
  have hw1 : IntKind.i64.wrap (((Mn : Nat) : Int) - 1) = ((Mn : Nat) : Int) - 1 := by rw [IntKind.wrap_i64]; omega
  go_upto_region 2 with fail
  refine wp_gen (fun W => RlSt neg (kd : Nat) e (.slice ao1 l1 ca1) (.slice ao2 l2 ca2) w W ∧ BigV W (.slice (some ⟨W1.heap.size, 0, none⟩) 0 0) 0 30) ⟨HS.out, HB0.out⟩ ?_
  clear HS HB0
  generalize W1.heap.size = p8 at *
  rintro W2 ⟨g1, g2⟩
  have HS := hide g1
  have HB0 := hide g2
  clear g1 g2
  go_wp2_with fail
  go_loopw [8, 9] (fun mv i wr => ∃ (v : Value) (x c : Nat) (zi : Int), v = mv ∧ c ≤ Mn ∧ Hid (zi = (c : Int) - 1) ∧ i = .int .i64 zi ∧ Hid (FInv (fun y => decide (cR kd num den e y P ≤ 0)) Mn c x) ∧ Hid (BigV wr v x (30 + (Mn - c))) ∧ Hid (RlSt neg (kd : Nat) e (.slice ao1 l1 ca1) (.slice ao2 l2 ca2) w wr)) (fun mv i _ => (intOf i + 1).toNat)
  case atStart => exact ⟨_, 0, Mn, _, rfl, Nat.le_refl _, hide rfl, rfl, HI0, hide (HB0.out.mono (by omega)), HS⟩
  case round =>
    clear HS HB0 HI0 hw1
    obtain ⟨v, x, c, zi, rfl, hc, hzi, rfl, HI, HBX, HS⟩ := hrel
    by_cases hz0 : 0 ≤ zi
    · obtain ⟨k, rfl⟩ : ∃ k : Nat, zi = (k : Int) := ⟨zi.toNat, by omega⟩
      obtain rfl : c = k + 1 := by have := hzi.out; omega
      have hfit := finv_fit HI.out hc
      have hyl : Go.bitLen (x + 2 ^ k) ≤ 5000 := by
        have := (len_le (x + 2 ^ k) Mn).2 hfit
        omega
      have HTK : Hid (cR kd num den e (x + 2 ^ k) P ≤ 0 → FInv (fun y => decide (cR kd num den e y P ≤ 0)) Mn k (x + 2 ^ k)) := fun h => finv_take HI.out hc (decide_eq_true h)
      have HLV : Hid (¬ cR kd num den e (x + 2 ^ k) P ≤ 0 → FInv (fun y => decide (cR kd num den e y P ≤ 0)) Mn k x) := fun h => finv_leave HI.out HMO.out (decide_eq_false h)
      clear hfit hzi HI
      have HPW := hide (fun W => refPower_int k (2 ^ k) (k : Int) (by omega) rfl rfl W)
      have HAD := hide (fun v1 v2 W (h1 : BigV W v1 x (30 + (Mn - (k + 1)))) (h2 : BigV W v2 (2 ^ k) (k / 32 + 3)) => refAdd_any x (2 ^ k) (30 + (Mn - (k + 1))) (k / 32 + 3) v1 v2 W h1 h2 (by omega) (by omega))
      generalize x + 2 ^ k = y at *
      go_wp2_with fail
      refine (HPW.out _).mono ?_
      rintro e_ w3 ⟨v3, rfl, hv3, hb3⟩
      replace HS := hide (HS.out.below hb3)
      replace HBX := hide (HBX.out.below hb3)
      clear hb3
      go_wp2_with fail
      refine (HAD.out _ _ _ HBX.out hv3).mono ?_
      rintro e_ w4 ⟨v4, rfl, hv4, hb4⟩
      replace HS := hide (HS.out.below hb4)
      replace HBX := hide (HBX.out.below hb4)
      have HBY := hide (hv4.mono (K' := 30 + (Mn - k)) (by omega))
      clear hb4 hv3 hv4 HPW HAD
      have q0 := HS.out.c0
      have q1 := HS.out.c1
      have q2 := HS.out.c2
      have q3 := HS.out.c3
      have q4 := HS.out.c4
      go_wp2_with fail
      refine (HCM.out y hyl P (by omega) _ _ (HBY.out.mono (by omega)) (HRV.out _ HS.out.bel)).mono ?_
      rintro e_ w5 ⟨rfl, hb5⟩
      replace HS := hide (HS.out.below hb5)
      replace HBX := hide (HBX.out.below hb5)
      replace HBY := hide (HBY.out.below hb5)
      clear hb5 q0 q1 q2 q3 q4
      have hw : IntKind.i64.wrap ((k : Int) - 1) = (k : Int) - 1 := by rw [IntKind.wrap_i64]; omega
      generalize cR kd num den e y P = cz at *
      by_cases hcz : cz ≤ 0
      · have HI2 := hide (HTK.out hcz)
        clear HTK HLV
        go_wp2
        go_roundw
        case rel => exact ⟨_, y, k, (k : Int) - 1, rfl, by omega, hide rfl, rfl, HI2, HBY, HS⟩
        case measure => first | (simp [intOf]; done) | (simp [intOf]; omega)
      · have HI2 := hide (HLV.out (by omega))
        clear HTK HLV
        go_wp2
        go_roundw
        case rel => exact ⟨_, x, k, (k : Int) - 1, rfl, by omega, hide rfl, rfl, HI2, hide (HBX.out.mono (by omega)), HS⟩
        case measure => first | (simp [intOf]; done) | (simp [intOf]; omega)
    · obtain rfl : zi = -1 := by have := hzi.out; omega
      obtain rfl : c = 0 := by have := hzi.out; omega
      obtain rfl := finv_uniq HI.out HDD.out
      have HBD := hide (HBX.out.mono (K' := 700) (by omega))
      clear HI HBX hzi HMO HDD hz0
      have q0 := HS.out.c0
      have q1 := HS.out.c1
      have q2 := HS.out.c2
      have q3 := HS.out.c3
      have q4 := HS.out.c4
      go_wp2_with fail
      refine (HCM.out x (by omega) P (by omega) _ _ (HBD.out.mono (by omega)) (HRV.out _ HS.out.bel)).mono ?_
      rintro e_ w5 ⟨rfl, hb5⟩
      replace HS := hide (HS.out.below hb5)
      replace HBD := hide (HBD.out.below hb5)
      clear hb5 q0 q1 q2 q3 q4
      have HR1 : Hid (cR kd num den e x P = 0 → r = 0) := fun h => by rw [HR.out, if_pos h]
      have HR2 : Hid (cR kd num den e x P ≠ 0 → r = 2 - max (-1) (min 1 (cR kd num den e (x * 2 ^ 1 + 1) (P - 1)))) := fun h => by rw [HR.out, if_neg h]
      clear HR
      generalize cR kd num den e x P = cz at *
      by_cases hcz : cz = 0
      · have hr0 := HR1.out hcz
        have hb : (cz == 0) = true := by rw [hcz]; rfl
        clear HR1 HR2
        subst hr0
        have HB := hide HS.out.bel
        go_wp2
        exact bodyPost_ret (v := .tuple #[v, .int .i64 0]) (by simp [results, Tryz.results63, go_sem]) rfl ⟨_, rfl, HBD.out, HB.out⟩
      · have hb : (cz == 0) = false := by rw [beq_eq_false_iff_ne]; exact hcz
        have HRR := hide (HR2.out hcz)
        clear HR1 HR2 hcz
        have hyl : Go.bitLen (x * 2 ^ 1 + 1) ≤ 5000 := by have := len_dbl x; omega
        have HCZ := hide (HCM.out (x * 2 ^ 1 + 1) hyl (P - 1) (by omega))
        generalize cR kd num den e (x * 2 ^ 1 + 1) (P - 1) = c2 at *
        obtain ⟨m1, hm1⟩ : ∃ m1, min 1 c2 = m1 := ⟨_, rfl⟩
        obtain ⟨m2, hm2⟩ : ∃ m2, max (-1) m1 = m2 := ⟨_, rfl⟩
        have hm3 : -1 ≤ m2 ∧ m2 ≤ 1 := by omega
        have HM1 := hide hm1
        have HM2 := hide hm2
        have hr2 : r = 2 - m2 := by rw [HRR.out, hm1, hm2]
        clear hm1 hm2 HRR
        subst hr2
        obtain ⟨aov, lv, cav, rfl⟩ := HBD.out.slice
        go_upto_region 10 with fail
        refine wp_gen (fun W => RlSt neg (kd : Nat) e (.slice ao1 l1 ca1) (.slice ao2 l2 ca2) w W ∧ BigV W (.slice aov lv cav) x 700) ⟨HS.out, HBD.out⟩ ?_
        clear HS HBD hb
        rintro W6 h6
        refine wp_region_grow 14 [(34, .val (.slice aov lv cav)), (35, .val (.slice aov lv cav)), (36, .big (x * 2 ^ 1) (1 / 32 + 700 + 1)), (37, .big 1 2), (38, .big (x * 2 ^ 1 + 1) (max (1 / 32 + 700 + 1) 2 + 1)), (39, .val (.int .i64 P)), (40, .val (.int .i64 (P - 1))), (41, .val (.agg #[.bool neg, .int .i64 (kd : Nat), .slice ao1 l1 ca1, .slice ao2 l2 ca2, .int .i64 e])), (42, .val (.int .i64 c2)), (43, .val (.int .i64 m1)), (44, .val (.int .i64 m2)), (45, .val (.int .i64 (2 - m2))), (6, .val (.slice aov lv cav)), (7, .val (.int .i64 (2 - m2)))]
          (fun W => RlSt neg (kd : Nat) e (.slice ao1 l1 ca1) (.slice ao2 l2 ca2) w W ∧ BigV W (.slice aov lv cav) x 700) mixedOk (by kernel_rfl) (by kernel_rfl) (⟨h6.1.below (Below.refl _ _).drew, h6.2.below (Below.refl _ _).drew⟩) (fun W W' h hb => ⟨h.1.below hb, h.2.below hb⟩) ?_ ?_
        · refine gSt (gStep_run rfl (gRun_move 8 34 (.inl rfl) rfl (by decide +kernel) (fun v w h => h))) ?_
          refine gSt (gStep_run rfl (gRun_move 8 35 (.inl rfl) rfl (by decide +kernel) (fun v w h => h))) ?_
          refine gSt (gStep_run rfl ?_) ?_
          · intro ρ W hC hc hf hL
            have e35 : ρ (.tmp 35) = .slice aov lv cav := hL 35 (by decide +kernel)
            simp [go_sem, hc, hf, e35]
            refine (refShl_int x 700 1 1 _ W hC.2 (by decide) (by decide) rfl).mono ?_
            rintro e w' ⟨v, rfl, hv, hb⟩
            exact ⟨_, rfl, hb, hv⟩
          refine gSt (gStep_run rfl ?_) ?_
          · intro ρ W hC hc hf hL
            simp [go_sem, hc, hf]
            refine (small_any 1 (by decide) W).mono ?_
            rintro e w' ⟨v, rfl, hv, hb⟩
            exact ⟨_, rfl, hb, hv⟩
          refine gSt (gStep_run rfl ?_) ?_
          · intro ρ W hC hc hf hL
            have b36 : BigV W (ρ (.tmp 36)) ((x * 2 ^ 1)) ((1 / 32 + 700 + 1)) := hL 36 (by decide +kernel)
            have b37 : BigV W (ρ (.tmp 37)) (1) (2) := hL 37 (by decide +kernel)
            simp [go_sem, hc, hf]
            refine (refAdd_any (x * 2 ^ 1) 1 (1 / 32 + 700 + 1) 2 _ _ W b36 b37 (by decide) (by decide)).mono ?_
            rintro e w' ⟨v, rfl, hv, hb⟩
            exact ⟨_, rfl, hb, hv⟩
          refine gSt (gStep_run rfl (gRun_move 1 39 (.inl rfl) rfl (by decide +kernel) (fun v w h => h))) ?_
          refine gSt (gStep_run rfl ?_) ?_
          · intro ρ W hC hc hf hL
            have e39 : ρ (.tmp 39) = .int .i64 P := hL 39 (by decide +kernel)
            have hw : IntKind.i64.wrap (P - 1) = P - 1 := by rw [IntKind.wrap_i64]; omega
            simp [go_sem, hc, hf, e39, hw]
            exact ⟨Below.refl _ _, rfl⟩
          refine gSt (gStep_run rfl ?_) ?_
          · intro ρ W hC hc hf hL
            have e3 : ρ (.tmp 3) = .pointer (some ⟨w.heap.size, 0, none⟩) := hL 3 (by decide +kernel)
            have q0 := hC.1.c0
            have q1 := hC.1.c1
            have q2 := hC.1.c2
            have q3 := hC.1.c3
            have q4 := hC.1.c4
            simp [go_sem, hc, hf, e3, q0, q1, q2, q3, q4]
            exact ⟨Below.refl _ _, rfl⟩
          refine gSt (gStep_run rfl ?_) ?_
          · intro ρ W hC hc hf hL
            have b38 : BigV W (ρ (.tmp 38)) ((x * 2 ^ 1 + 1)) ((max (1 / 32 + 700 + 1) 2 + 1)) := hL 38 (by decide +kernel)
            have e40 : ρ (.tmp 40) = .int .i64 (P - 1) := hL 40 (by decide +kernel)
            have e41 : ρ (.tmp 41) = .agg #[.bool neg, .int .i64 (kd : Nat), .slice ao1 l1 ca1, .slice ao2 l2 ca2, .int .i64 e] := hL 41 (by decide +kernel)
            simp [go_sem, hc, hf, e40, e41]
            refine (HCZ.out _ W (BigV.mono b38 (by decide)) (HRV.out W hC.1.bel)).mono ?_
            rintro e w' ⟨rfl, hb⟩
            exact ⟨_, rfl, by first | exact hb | (subst hb; exact Below.refl _ _), rfl⟩
          refine gSt (gStep_run rfl ?_) ?_
          · intro ρ W hC hc hf hL
            have e42 : ρ (.tmp 42) = .int .i64 c2 := hL 42 (by decide +kernel)
            have hm := HM1.out
            simp [go_sem, hc, hf, e42, hm]
            exact ⟨Below.refl _ _, rfl⟩
          refine gSt (gStep_run rfl ?_) ?_
          · intro ρ W hC hc hf hL
            have e43 : ρ (.tmp 43) = .int .i64 m1 := hL 43 (by decide +kernel)
            have hm := HM2.out
            simp [go_sem, hc, hf, e43, hm]
            exact ⟨Below.refl _ _, rfl⟩
          refine gSt (gStep_run rfl ?_) ?_
          · intro ρ W hC hc hf hL
            have e44 : ρ (.tmp 44) = .int .i64 m2 := hL 44 (by decide +kernel)
            have hw : IntKind.i64.wrap (2 - m2) = 2 - m2 := by rw [IntKind.wrap_i64]; omega
            simp [go_sem, hc, hf, e44, hw]
            exact ⟨Below.refl _ _, rfl⟩
          refine gSt (gStep_run rfl (gRun_move 34 6 (.inr rfl) rfl (by decide +kernel) (fun v w h => h))) ?_
          refine gSt (gStep_run rfl (gRun_move 45 7 (.inr rfl) rfl (by decide +kernel) (fun v w h => h))) ?_
          exact gSt0
        · intro W hC
          refine gFi 34 rfl ?_
          rintro _ rfl
          refine gFi 35 rfl ?_
          rintro _ rfl
          refine gFi 36 rfl ?_
          rintro u36 b36
          refine gFi 37 rfl ?_
          rintro u37 b37
          refine gFi 38 rfl ?_
          rintro u38 b38
          refine gFi 39 rfl ?_
          rintro _ rfl
          refine gFi 40 rfl ?_
          rintro _ rfl
          refine gFi 41 rfl ?_
          rintro _ rfl
          refine gFi 42 rfl ?_
          rintro _ rfl
          refine gFi 43 rfl ?_
          rintro _ rfl
          refine gFi 44 rfl ?_
          rintro _ rfl
          refine gFi 45 rfl ?_
          rintro _ rfl
          refine gFi 6 rfl ?_
          rintro _ rfl
          refine gFi 7 rfl ?_
          rintro _ rfl
          refine gFi0 ?_
          simp only [List.drop_succ_cons, List.drop_zero, Act.put, List.setIfInBounds_toArray, List.set_cons_succ, List.set_cons_zero]
          have HBV := hide hC.2
          have HB := hide hC.1.bel
          clear hC h6 b36 b37 b38
          go_wp2
          exact bodyPost_ret (v := .tuple #[.slice aov lv cav, .int .i64 (2 - m2)]) (by simp [results, Tryz.results63, go_sem]) rfl ⟨_, rfl, HBV.out, HB.out⟩

end Go.Proofs.YtpcjdllijkjdkaaGreatDoor

