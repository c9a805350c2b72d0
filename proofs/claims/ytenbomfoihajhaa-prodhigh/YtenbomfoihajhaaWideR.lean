/- Contracts: wide.Shr, as numbers; radicandref02.Sar. -/
import Derived.Test.YtenbomfoihajhaaWideQ
import Derived.Deep.DeepCutAuto
set_option linter.unusedVariables false
set_option linter.unusedSimpArgs false
set_option maxRecDepth 8000
namespace Go.Proofs.Ytenbomfoihajhaa
open Go.RowKit Plain

theorem w8_mod {x y : Nat} (h : x % QQ = y % QQ) : (#[.int .u64 (dgl (x) 0 : Nat), .int .u64 (dgl (x) 1 : Nat), .int .u64 (dgl (x) 2 : Nat), .int .u64 (dgl (x) 3 : Nat), .int .u64 (dgl (x) 4 : Nat), .int .u64 (dgl (x) 5 : Nat), .int .u64 (dgl (x) 6 : Nat), .int .u64 (dgl (x) 7 : Nat)] : Array Value) = #[.int .u64 (dgl (y) 0 : Nat), .int .u64 (dgl (y) 1 : Nat), .int .u64 (dgl (y) 2 : Nat), .int .u64 (dgl (y) 3 : Nat), .int .u64 (dgl (y) 4 : Nat), .int .u64 (dgl (y) 5 : Nat), .int .u64 (dgl (y) 6 : Nat), .int .u64 (dgl (y) 7 : Nat)] := by
  apply w8_congr (x := dgl x) (y := dgl y)
  intro i hi
  have h1 := wide_end (Q := 18446744073709551616) (by decide) x 8 i hi
  have h2 := wide_end (Q := 18446744073709551616) (by decide) y 8 i hi
  unfold dgl
  rw [← h1, ← h2]
  have h3 : x % 18446744073709551616 ^ 8 = y % 18446744073709551616 ^ 8 := h
  rw [h3]

theorem sh_down (a k : Nat) : sh a (-(k : Int)) = a / 2 ^ k := by
  unfold sh
  by_cases h : k = 0
  · subst h; rw [if_neg (by omega)]; simp
  · rw [if_pos (by omega), show (- -(k : Int)).toNat = k by omega]
theorem sh_up (a k : Nat) : sh a (k : Int) = a * 2 ^ k := by
  unfold sh
  rw [if_neg (by omega), Int.toNat_natCast]
theorem wide_eqb {a b : Nat} (ha : a < QQ) (hb : b < QQ) (w : World) :
    (Op.equalIn 10000 24 (.agg #[.int .u64 (dgl (a) 0 : Nat), .int .u64 (dgl (a) 1 : Nat), .int .u64 (dgl (a) 2 : Nat), .int .u64 (dgl (a) 3 : Nat), .int .u64 (dgl (a) 4 : Nat), .int .u64 (dgl (a) 5 : Nat), .int .u64 (dgl (a) 6 : Nat), .int .u64 (dgl (a) 7 : Nat)]) (.agg #[.int .u64 (dgl (b) 0 : Nat), .int .u64 (dgl (b) 1 : Nat), .int .u64 (dgl (b) 2 : Nat), .int .u64 (dgl (b) 3 : Nat), .int .u64 (dgl (b) 4 : Nat), .int .u64 (dgl (b) 5 : Nat), .int .u64 (dgl (b) 6 : Nat), .int .u64 (dgl (b) 7 : Nat)])).run Try.prog w = .ok (decide (a = b)) w := by
  by_cases h : a = b
  · subst h; rw [wide_same, decide_eq_true rfl]
  · rw [wide_diff ha hb h, decide_eq_false h]

theorem wideShr_any (a k : Nat) (n : Int) (hk : roomI n = (k : Int)) (ha : a < QQ) (w : World) :
    Calls Try.prog 19 #[.agg #[.int .u64 (dgl (a) 0 : Nat), .int .u64 (dgl (a) 1 : Nat), .int .u64 (dgl (a) 2 : Nat), .int .u64 (dgl (a) 3 : Nat), .int .u64 (dgl (a) 4 : Nat), .int .u64 (dgl (a) 5 : Nat), .int .u64 (dgl (a) 6 : Nat), .int .u64 (dgl (a) 7 : Nat)], .int .i64 n] w fun e w' => e = .returned (.tuple #[.agg #[.int .u64 (dgl (a / 2 ^ k) 0 : Nat), .int .u64 (dgl (a / 2 ^ k) 1 : Nat), .int .u64 (dgl (a / 2 ^ k) 2 : Nat), .int .u64 (dgl (a / 2 ^ k) 3 : Nat), .int .u64 (dgl (a / 2 ^ k) 4 : Nat), .int .u64 (dgl (a / 2 ^ k) 5 : Nat), .int .u64 (dgl (a / 2 ^ k) 6 : Nat), .int .u64 (dgl (a / 2 ^ k) 7 : Nat)], .bool (!decide (a / 2 ^ k * 2 ^ k = a))]) ∧ Below w.heap.size w w' := by
  have hbd := roomI_bd n
  have hq : a / 2 ^ k < QQ := Nat.lt_of_le_of_lt (Nat.div_le_self _ _) ha
  have hu : a / 2 ^ k * 2 ^ k < QQ := Nat.lt_of_le_of_lt (Nat.div_mul_le_self _ _) ha
  have hM := fun w => moved_any a 0 a (-(roomI n)) w (ext0 ha) (by omega) (by omega)
  have hS := fun w => wideShl_any (a / 2 ^ k) n hq w
  rw [hk, sh_down] at hM
  rw [hk, sh_up] at hS
  refine wideShr_walk (dgl a) (dgl (a / 2 ^ k)) (dgl (a / 2 ^ k * 2 ^ k)) n (k : Int) (decide (a / 2 ^ k * 2 ^ k = a)) w (fun w => by rw [← hk]; exact room_any n w) ?_ hM hS (fun w => wide_eqb hu ha w)
  rw [IntKind.wrap_i64]; omega

theorem shrSt_start (fa : Nat → Nat) (w : World) : ShrSt w.heap.size w fa (fun _ => 0) ((w.alloc (.cells #[.int .u64 (fa 0 : Nat), .int .u64 (fa 1 : Nat), .int .u64 (fa 2 : Nat), .int .u64 (fa 3 : Nat), .int .u64 (fa 4 : Nat), .int .u64 (fa 5 : Nat), .int .u64 (fa 6 : Nat), .int .u64 (fa 7 : Nat)] 24)).alloc (.cells #[.int .u64 0, .int .u64 0, .int .u64 0, .int .u64 0, .int .u64 0, .int .u64 0, .int .u64 0, .int .u64 0] 24)) := by
  have hlz := liesF_new (w.alloc (.cells #[.int .u64 (fa 0 : Nat), .int .u64 (fa 1 : Nat), .int .u64 (fa 2 : Nat), .int .u64 (fa 3 : Nat), .int .u64 (fa 4 : Nat), .int .u64 (fa 5 : Nat), .int .u64 (fa 6 : Nat), .int .u64 (fa 7 : Nat)] 24)) (fun _ => 0) 24
  rw [World.size_alloc] at hlz
  exact ⟨(liesF_new w fa 24).alloc _, hlz, fun i => by simp [go_sem], below_trans (below_allocs w _) (below_allocs _ _)⟩

set_option maxHeartbeats 1000000 in
theorem refSar_pos (a k : Nat) (n : Int) (hk : (k : Int) = min (max n 0) 600) (ha : a < QQ) (hm : (a / 2 ^ 511 % 2 == 1) = false) (w : World) :
    Calls Try.prog 23 #[.agg #[.int .u64 (dgl (a) 0 : Nat), .int .u64 (dgl (a) 1 : Nat), .int .u64 (dgl (a) 2 : Nat), .int .u64 (dgl (a) 3 : Nat), .int .u64 (dgl (a) 4 : Nat), .int .u64 (dgl (a) 5 : Nat), .int .u64 (dgl (a) 6 : Nat), .int .u64 (dgl (a) 7 : Nat)], .int .i64 n] w fun e w' => e = .returned (.agg #[.int .u64 (dgl (a / 2 ^ k) 0 : Nat), .int .u64 (dgl (a / 2 ^ k) 1 : Nat), .int .u64 (dgl (a / 2 ^ k) 2 : Nat), .int .u64 (dgl (a / 2 ^ k) 3 : Nat), .int .u64 (dgl (a / 2 ^ k) 4 : Nat), .int .u64 (dgl (a / 2 ^ k) 5 : Nat), .int .u64 (dgl (a / 2 ^ k) 6 : Nat), .int .u64 (dgl (a / 2 ^ k) 7 : Nat)]) ∧ Below w.heap.size w w' := by
  have hM := fun w => refMinus_any a ha w
  rw [hm] at hM
  have HM := hide hM
  have HB := hide (fun w => refBig_any a ha w)
  have HR := hide (fun v w h => refShr_any a 40 k v w h (by omega) (by omega))
  have HW := hide (fun v w h => refWide_any (a / 2 ^ k) 40 v w h)
  have HST := hide (shrSt_start (dgl a) w)
  have HK := hide hk
  clear hM ha hm hk
  go_enter Try.func23, Try.ntmps23
  go_upto_region 1 with fail
  refine wp_gen (fun W => ShrSt w.heap.size w (dgl a) (fun _ => 0) W) HST.out ?_
  rintro W1 h1
  go_cut [1] (fun x wx => x = .int .i64 (k : Nat) ∧ wx = W1)
  case first =>
    go_wp2
    all_goals
      go_meet
      exact ⟨by rw [HK.out]; first | done | (congr 1; omega), rfl⟩
  case rest =>
    obtain ⟨rfl, rfl⟩ := hcut
    replace HST := hide h1
    have hca := h1.la.1
    clear h1
    go_wp2_with fail
    refine (HM.out _).mono ?_
    rintro e w2 ⟨rfl, hb2⟩
    replace HST := hide (HST.out.below hb2)
    have hca := HST.out.la.1
    clear hb2
    go_wp2_with fail
    refine (HB.out _).mono ?_
    rintro e w3 ⟨v3, rfl, hv3, hb3⟩
    replace HST := hide (HST.out.below hb3)
    clear hb3 hca
    go_wp2_with fail
    refine (HR.out _ _ hv3).mono ?_
    rintro e w4 ⟨v4, rfl, hv4, hb4⟩
    replace HST := hide (HST.out.below hb4)
    clear hb4 hv3
    go_wp2_with fail
    refine (HW.out _ _ hv4).mono ?_
    rintro e w5 ⟨rfl, hb5⟩
    replace HST := hide (HST.out.below hb5)
    have hr := HST.out.lr.1
    have hrf := HST.out.fr
    have hl := HST.out.lr.2
    clear hb5 hv4
    go_wp2
    exact bodyPost_ret (v := .agg #[.int .u64 (dgl (a / 2 ^ k) 0 : Nat), .int .u64 (dgl (a / 2 ^ k) 1 : Nat), .int .u64 (dgl (a / 2 ^ k) 2 : Nat), .int .u64 (dgl (a / 2 ^ k) 3 : Nat), .int .u64 (dgl (a / 2 ^ k) 4 : Nat), .int .u64 (dgl (a / 2 ^ k) 5 : Nat), .int .u64 (dgl (a / 2 ^ k) 6 : Nat), .int .u64 (dgl (a / 2 ^ k) 7 : Nat)]) (by simp [results, Try.results23, go_sem, hr, hl]) rfl ⟨rfl, (below_set8 HST.out.bel _ (by omega) _ _ _ _ _ _ _ _).alloc (by simp; omega) _⟩

set_option maxHeartbeats 2000000 in
theorem refSar_neg (a k P U : Nat) (n : Int) (hk : (k : Int) = min (max n 0) 600) (ha : a < QQ) (hm : (a / 2 ^ 511 % 2 == 1) = true) (hP : 2 ^ k = P) (hU : (QQ - a + (P - 1)) / P = U) (hUQ : U ≤ QQ) (w : World) :
    Calls Try.prog 23 #[.agg #[.int .u64 (dgl (a) 0 : Nat), .int .u64 (dgl (a) 1 : Nat), .int .u64 (dgl (a) 2 : Nat), .int .u64 (dgl (a) 3 : Nat), .int .u64 (dgl (a) 4 : Nat), .int .u64 (dgl (a) 5 : Nat), .int .u64 (dgl (a) 6 : Nat), .int .u64 (dgl (a) 7 : Nat)], .int .i64 n] w fun e w' => e = .returned (.agg #[.int .u64 (dgl (QQ - U) 0 : Nat), .int .u64 (dgl (QQ - U) 1 : Nat), .int .u64 (dgl (QQ - U) 2 : Nat), .int .u64 (dgl (QQ - U) 3 : Nat), .int .u64 (dgl (QQ - U) 4 : Nat), .int .u64 (dgl (QQ - U) 5 : Nat), .int .u64 (dgl (QQ - U) 6 : Nat), .int .u64 (dgl (QQ - U) 7 : Nat)]) ∧ Below w.heap.size w w' := by
  have hM := fun w => refMinus_any a ha w
  rw [hm] at hM
  have HM := hide hM
  have hk6 : k ≤ 600 := by omega
  have HB := hide (fun w => refBig_any a ha w)
  have HP1 := hide (pow_pos' k P hP)
  have HSU := hide (fun va vb w h1 h2 => refSub_any QQ a 19 40 va vb w h1 h2 (by omega) (Nat.le_of_lt ha))
  have HP := hide (fun w => refPower_any k P (by omega) hP w)
  have hR := fun v w h => refShr_any (QQ - a + (P - 1)) 60 k v w h (by omega) (by omega)
  rw [hP, hU] at hR
  have HR := hide hR
  have HU := hide hUQ
  have HST := hide (shrSt_start (dgl a) w)
  have HK := hide hk
  clear hM ha hm hk hR hP hU hUQ
  go_enter Try.func23, Try.ntmps23
  go_upto_region 1 with fail
  refine wp_gen (fun W => ShrSt w.heap.size w (dgl a) (fun _ => 0) W) HST.out ?_
  rintro W1 h1
  go_cut [1] (fun x wx => x = .int .i64 (k : Nat) ∧ wx = W1)
  case first =>
    go_wp2
    all_goals
      go_meet
      exact ⟨by rw [HK.out]; first | done | (congr 1; omega), rfl⟩
  case rest =>
    obtain ⟨rfl, rfl⟩ := hcut
    replace HST := hide h1
    have hca := h1.la.1
    clear h1
    go_wp2_with fail
    refine (HM.out _).mono ?_
    rintro e w2 ⟨rfl, hb2⟩
    replace HST := hide (HST.out.below hb2)
    clear hb2 hca
    go_upto_region 5 with fail
    refine wp_region_grow 5 [(26, .big QQ 19), (27, .val (.agg #[.int .u64 (dgl (a) 0 : Nat), .int .u64 (dgl (a) 1 : Nat), .int .u64 (dgl (a) 2 : Nat), .int .u64 (dgl (a) 3 : Nat), .int .u64 (dgl (a) 4 : Nat), .int .u64 (dgl (a) 5 : Nat), .int .u64 (dgl (a) 6 : Nat), .int .u64 (dgl (a) 7 : Nat)])), (28, .big a 40), (29, .big (QQ - a) 19), (7, .big (QQ - a) 19)]
      (fun W => ShrSt w.heap.size w (dgl a) (fun _ => 0) W) mixedOk (by kernel_rfl) (by kernel_rfl) (HST.out.below (Below.refl _ _).drew) (fun W W' h hb => h.below hb) ?_ ?_
    · refine gSt (gStep_run rfl ?_) ?_
      · intro ρ W hC hc hf hL
        simp [go_sem, hc, hf]
        refine (refWhole_any _).mono ?_
        rintro e w' ⟨v, rfl, hv, hb⟩
        exact ⟨_, rfl, hb, hv⟩
      refine gSt (gStep_run rfl ?_) ?_
      · intro ρ W hC hc hf hL
        have e2 : ρ (.tmp 2) = .pointer (some ⟨w.heap.size, 0, none⟩) := hL 2 (by decide +kernel)
        have hl := hC.la.1
        simp [go_sem, hc, hf, e2, hl]
        exact ⟨Below.refl _ _, rfl⟩
      refine gSt (gStep_run rfl ?_) ?_
      · intro ρ W hC hc hf hL
        have e27 : ρ (.tmp 27) = .agg #[.int .u64 (dgl (a) 0 : Nat), .int .u64 (dgl (a) 1 : Nat), .int .u64 (dgl (a) 2 : Nat), .int .u64 (dgl (a) 3 : Nat), .int .u64 (dgl (a) 4 : Nat), .int .u64 (dgl (a) 5 : Nat), .int .u64 (dgl (a) 6 : Nat), .int .u64 (dgl (a) 7 : Nat)] := hL 27 (by decide +kernel)
        simp [go_sem, hc, hf, e27]
        refine (HB.out _).mono ?_
        rintro e w' ⟨v, rfl, hv, hb⟩
        exact ⟨_, rfl, hb, hv⟩
      refine gSt (gStep_run rfl ?_) ?_
      · intro ρ W hC hc hf hL
        have b26 : BigV W (ρ (.tmp 26)) (QQ) (19) := hL 26 (by decide +kernel)
        have b28 : BigV W (ρ (.tmp 28)) (a) (40) := hL 28 (by decide +kernel)
        simp [go_sem, hc, hf]
        refine (HSU.out _ _ _ b26 b28).mono ?_
        rintro e w' ⟨v, rfl, hv, hb⟩
        exact ⟨_, rfl, hb, hv⟩
      refine gSt (gStep_run rfl (gRun_move 29 7 (.inr rfl) rfl (by decide +kernel) (fun v w h => h))) ?_
      exact gSt0
    · intro W hC
      refine gFi 26 rfl ?_
      rintro u26 b26
      refine gFi 27 rfl ?_
      rintro _ rfl
      refine gFi 28 rfl ?_
      rintro u28 b28
      refine gFi 29 rfl ?_
      rintro u29 b29
      refine gFi 7 rfl ?_
      rintro u7 b7
      refine gFi0 ?_
      simp only [List.drop_succ_cons, List.drop_zero]
      clear b26 b28 b29
      clear HST
      have HST := hide hC
      clear hC
      go_wp2_with fail
      refine (HP.out _).mono ?_
      rintro e w5 ⟨v5, rfl, hv5, hb5⟩
      replace HST := hide (HST.out.below hb5)
      replace b7 := b7.below hb5
      clear hb5
      go_wp2_with fail
      refine (small_any 1 (by decide) _).mono ?_
      rintro e w6 ⟨v6, rfl, hv6, hb6⟩
      replace HST := hide (HST.out.below hb6)
      replace b7 := b7.below hb6
      replace hv5 := hv5.below hb6
      clear hb6
      go_wp2_with fail
      refine (refSub_any P 1 (k / 32 + 3) 2 _ _ _ hv5 hv6 (by omega) HP1.out).mono ?_
      rintro e w7 ⟨v7, rfl, hv7, hb7⟩
      replace HST := hide (HST.out.below hb7)
      replace b7 := b7.below hb7
      clear hb7 hv5 hv6
      go_wp2_with fail
      refine (refAdd_any (QQ - a) (P - 1) 19 (k / 32 + 3) _ _ _ b7 hv7 (by omega) (by omega)).mono ?_
      rintro e w8 ⟨v8, rfl, hv8, hb8⟩
      replace HST := hide (HST.out.below hb8)
      clear hb8 b7 hv7
      go_wp2_with fail
      refine (HR.out _ _ (hv8.mono (by omega))).mono ?_
      rintro e w9 ⟨v9, rfl, hv9, hb9⟩
      replace HST := hide (HST.out.below hb9)
      clear hb9 hv8
      go_wp2_with fail
      refine (refWhole_any _).mono ?_
      rintro e w10 ⟨v10, rfl, hv10, hb10⟩
      replace HST := hide (HST.out.below hb10)
      replace hv9 := hv9.below hb10
      clear hb10
      go_wp2_with fail
      refine (refSub_any QQ U 19 60 _ _ _ hv10 hv9 (by omega) HU.out).mono ?_
      rintro e w11 ⟨v11, rfl, hv11, hb11⟩
      replace HST := hide (HST.out.below hb11)
      clear hb11 hv9 hv10
      go_wp2_with fail
      refine (refWide_any (QQ - U) 19 _ _ hv11).mono ?_
      rintro e w12 ⟨rfl, hb12⟩
      replace HST := hide (HST.out.below hb12)
      have hr := HST.out.lr.1
      have hrf := HST.out.fr
      have hl := HST.out.lr.2
      clear hb12 hv11
      go_wp2
      exact bodyPost_ret (v := .agg #[.int .u64 (dgl (QQ - U) 0 : Nat), .int .u64 (dgl (QQ - U) 1 : Nat), .int .u64 (dgl (QQ - U) 2 : Nat), .int .u64 (dgl (QQ - U) 3 : Nat), .int .u64 (dgl (QQ - U) 4 : Nat), .int .u64 (dgl (QQ - U) 5 : Nat), .int .u64 (dgl (QQ - U) 6 : Nat), .int .u64 (dgl (QQ - U) 7 : Nat)]) (by simp [results, Try.results23, go_sem, hr, hl]) rfl ⟨rfl, (below_set8 HST.out.bel _ (by omega) _ _ _ _ _ _ _ _).alloc (by simp; omega) _⟩

end Go.Proofs.Ytenbomfoihajhaa
