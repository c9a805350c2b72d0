/- For all lists of ints the law radicandlaw13.FlyTurns returns true and leaves what came in as it was. No conditions. -/
import Derived.Test.YtgnaomgcfliamaaPartAN
import Derived.Test.YtgnaomgcfliamaaRows
import Derived.WalkKit
import Derived.ProofKit
import Derived.OpenShut
import Derived.ShutString
import Derived.ChangeOld
import Derived.Below
/- For all lists of ints the law radicandlaw13.FlyTurns returns true. -/
set_option linter.unusedVariables false
set_option linter.unusedSimpArgs false
set_option maxRecDepth 8000
namespace Go.Proofs.Ytgnaomgcfliamaa
open Go.RowKit Plain

theorem flyTurns_long (l : List Nat) (v : Value) (w : World) (hr : Rd mkZ w v l) (h : 400 < l.length) (HAW : Hid (∀ w, Calls Try.prog 7 #[] w fun e w' => e = .returned (.bool true) ∧ Below w.heap.size w w')) :
    Calls Try.prog 6 #[v] w fun e w' => e = .returned (.bool true) ∧ Below w.heap.size w w' := by
  obtain ⟨ao, ca, rfl, hca, hma, hc⟩ := hr
  unfold maxLen at hma
  have h4 : (400 : Int) < (l.length : Int) := by omega
  clear hc
  go_enter Try.func6, Try.ntmps6
  go_wp2_with fail
  refine (HAW.out _).mono ?_
  rintro e w1 ⟨rfl, hb1⟩
  go_wp2
  go_ret
  exact ⟨rfl, hb1⟩

set_option maxHeartbeats 4000000 in
theorem flyTurns_walk (l : List Nat) (v : Value) (w : World) (x y : Nat) (ok : Bool) (hr : Rd mkZ w v l) (h : l.length ≤ 400) (hl : ∀ i, i < l.length → dg l i < 18446744073709551616) (hsum : x + y = 0 ∨ x + y = QQ)
    (HTN : Hid (Calls Try.prog 21 #[v] w fun e w' => ∃ u L, e = .returned u ∧ Rd mkZ w' u L ∧ L.length = l.length ∧ (∀ i, i < l.length → dg L i = nof (ngz (zof (dg l i)))) ∧ Below w.heap.size w w'))
    (HC1 : Hid (∀ W, Below w.heap.size w W → Calls Try.prog 8 #[v] W fun e w' => e = .returned (.tuple #[.agg #[.int .u64 (dgl (x) 0 : Nat), .int .u64 (dgl (x) 1 : Nat), .int .u64 (dgl (x) 2 : Nat), .int .u64 (dgl (x) 3 : Nat), .int .u64 (dgl (x) 4 : Nat), .int .u64 (dgl (x) 5 : Nat), .int .u64 (dgl (x) 6 : Nat), .int .u64 (dgl (x) 7 : Nat)], .bool ok]) ∧ Below W.heap.size W w'))
    (HC2 : Hid (∀ u L W, Rd mkZ W u L → L.length = l.length → (∀ i, i < l.length → dg L i = nof (ngz (zof (dg l i)))) → Calls Try.prog 8 #[u] W fun e w' => e = .returned (.tuple #[.agg #[.int .u64 (dgl (y) 0 : Nat), .int .u64 (dgl (y) 1 : Nat), .int .u64 (dgl (y) 2 : Nat), .int .u64 (dgl (y) 3 : Nat), .int .u64 (dgl (y) 4 : Nat), .int .u64 (dgl (y) 5 : Nat), .int .u64 (dgl (y) 6 : Nat), .int .u64 (dgl (y) 7 : Nat)], .bool ok]) ∧ Below W.heap.size W w'))
    (HBX : Hid (∀ w, Calls Try.prog 14 #[.agg #[.int .u64 (dgl (x) 0 : Nat), .int .u64 (dgl (x) 1 : Nat), .int .u64 (dgl (x) 2 : Nat), .int .u64 (dgl (x) 3 : Nat), .int .u64 (dgl (x) 4 : Nat), .int .u64 (dgl (x) 5 : Nat), .int .u64 (dgl (x) 6 : Nat), .int .u64 (dgl (x) 7 : Nat)]] w fun e w' => ∃ v, e = .returned v ∧ BigV w' v x 40 ∧ Below w.heap.size w w'))
    (HBY : Hid (∀ w, Calls Try.prog 14 #[.agg #[.int .u64 (dgl (y) 0 : Nat), .int .u64 (dgl (y) 1 : Nat), .int .u64 (dgl (y) 2 : Nat), .int .u64 (dgl (y) 3 : Nat), .int .u64 (dgl (y) 4 : Nat), .int .u64 (dgl (y) 5 : Nat), .int .u64 (dgl (y) 6 : Nat), .int .u64 (dgl (y) 7 : Nat)]] w fun e w' => ∃ v, e = .returned v ∧ BigV w' v y 40 ∧ Below w.heap.size w w')) (HAW : Hid (∀ w, Calls Try.prog 7 #[] w fun e w' => e = .returned (.bool true) ∧ Below w.heap.size w w')) :
    Calls Try.prog 6 #[v] w fun e w' => e = .returned (.bool true) ∧ Below w.heap.size w w' := by
  have h4 : ¬ (400 : Int) < (l.length : Int) := by omega
  have HSUM := hide hsum
  have HLL := hide hl
  clear hsum hl
  obtain ⟨ao, ca, rfl, hca, hma, hc⟩ := hr
  unfold maxLen at hma
  have HCE := hide hc
  clear hc
  go_enter Try.func6, Try.ntmps6
  go_wp2_with fail
  refine (HTN.out).mono ?_
  rintro e w1 ⟨u, L, rfl, hu, hL, hg, hb1⟩
  have HU2 := hide (⟨hL, hg⟩ : L.length = l.length ∧ ∀ i, i < l.length → dg L i = nof (ngz (zof (dg l i))))
  have HT : Hid (Rd mkZ w1 u L ∧ Below w.heap.size w w1) := ⟨hu, hb1⟩
  obtain ⟨uo, uc, rfl, huc, hum, huz⟩ := hu
  rw [hL] at huz HT huc ⊢
  have HUE := hide huz
  clear hb1 hg huz HTN
  unfold maxLen at hum
  go_wp2
  go_loopw [4] (fun i wr => ∃ (k q : Nat), k ≤ l.length ∧ i = .int .i64 k ∧ wr = w1.drewN q)
    (fun i _ => l.length - (intOf i).toNat)
  case atStart => exact ⟨0, 0, by omega, rfl, rfl⟩
  case round =>
    obtain ⟨k, q, hk, rfl, rfl⟩ := hrel
    by_cases hlt : k < l.length
    · rcases HCE.out with hc | ⟨b, off, rfl, hbl, hcell⟩
      · omega
      · rcases HUE.out with hc2 | ⟨b2, off2, rfl, hbl2, hcell2⟩
        · omega
        · have c1 : w1.cell? ⟨b, off + k, none⟩ = some (mkZ (dg l k)) := (HT.out.2.cell (p := ⟨b, off + k, none⟩) hbl).trans (hcell k hlt)
          have c2 : w1.cell? ⟨b2, off2 + k, none⟩ = some (mkZ (dg L k)) := hcell2 k hlt
          have hbd := zof_bd (HLL.out k hlt)
          have hw := ngz_wrap hbd.1 hbd.2
          rw [HU2.out.2 k hlt, mkZ_nof (ngz_lo hbd.1 hbd.2)] at c2
          unfold mkZ at c1
          have j1 : (k : Int) < (l.length : Int) := by omega
          clear hcell hcell2 hbd
          generalize ngz (zof (dg l k)) = y1 at *
          generalize zof (dg l k) = z1 at *
          have hq2 : (y1 != y1) = false := by simp
          go_wp2
          go_quiet (fail)
          go_wp2
          go_roundw
          case rel => exact ⟨k + 1, _, by omega, by go_num, rfl⟩
          case measure => simp [intOf]; omega
    · have HT2 : Hid (Rd mkZ (w1.drewN q) (.slice uo l.length uc) L ∧ Below w.heap.size w (w1.drewN q)) := ⟨HT.out.1.drewN q, below_drewN' HT.out.2 q⟩
      clear HT HCE HUE
      generalize w1.drewN q = w2 at *
      go_wp2_with fail
      refine (HC1.out _ HT2.out.2).mono ?_
      rintro e w3 ⟨rfl, hb3⟩
      have HT3 : Hid (Rd mkZ w3 (.slice uo l.length uc) L ∧ Below w.heap.size w w3) := ⟨HT2.out.1.below hb3, below_trans HT2.out.2 hb3⟩
      clear HT2 hb3 HC1
      go_upto_region 12 with fail
      have hbw := below_allocs w3 (.cells #[.int .u64 (dgl (x) 0 : Nat), .int .u64 (dgl (x) 1 : Nat), .int .u64 (dgl (x) 2 : Nat), .int .u64 (dgl (x) 3 : Nat), .int .u64 (dgl (x) 4 : Nat), .int .u64 (dgl (x) 5 : Nat), .int .u64 (dgl (x) 6 : Nat), .int .u64 (dgl (x) 7 : Nat)] 26)
      refine wp_gen (fun W => LiesF W w3.heap.size (dgl x) ∧ Rd mkZ W (.slice uo l.length uc) L ∧ Below w.heap.size w W) ⟨liesF_new w3 (dgl x) _, HT3.out.1.below hbw, below_trans HT3.out.2 hbw⟩ ?_
      clear HT3 hbw
      generalize w3.heap.size = p5 at *
      rintro W12 h12
      have HS := hide h12
      clear h12
      go_wp2_with fail
      refine (HC2.out _ _ _ HS.out.2.1 HU2.out.1 HU2.out.2).mono ?_
      rintro e w4 ⟨rfl, hb4⟩
      have HS4 : Hid (LiesF w4 p5 (dgl x) ∧ Below w.heap.size w w4) := ⟨HS.out.1.below hb4, below_trans HS.out.2.2 hb4⟩
      clear HS hb4 HC2 HU2
      go_upto_region 13 with fail
      have hbw := below_allocs w4 (.cells #[.int .u64 (dgl (y) 0 : Nat), .int .u64 (dgl (y) 1 : Nat), .int .u64 (dgl (y) 2 : Nat), .int .u64 (dgl (y) 3 : Nat), .int .u64 (dgl (y) 4 : Nat), .int .u64 (dgl (y) 5 : Nat), .int .u64 (dgl (y) 6 : Nat), .int .u64 (dgl (y) 7 : Nat)] 26)
      refine wp_gen (fun W => LiesF W p5 (dgl x) ∧ LiesF W w4.heap.size (dgl y) ∧ Below w.heap.size w W) ⟨HS4.out.1.below hbw, liesF_new w4 (dgl y) _, below_trans HS4.out.2 hbw⟩ ?_
      clear HS4 hbw
      generalize w4.heap.size = p7 at *
      rintro W13 h13
      have HF := hide h13
      clear h13
      refine wp_region_grow 6 [(47, .val (.agg #[.int .u64 (dgl (x) 0 : Nat), .int .u64 (dgl (x) 1 : Nat), .int .u64 (dgl (x) 2 : Nat), .int .u64 (dgl (x) 3 : Nat), .int .u64 (dgl (x) 4 : Nat), .int .u64 (dgl (x) 5 : Nat), .int .u64 (dgl (x) 6 : Nat), .int .u64 (dgl (x) 7 : Nat)])), (48, .big x 40), (49, .val (.agg #[.int .u64 (dgl (y) 0 : Nat), .int .u64 (dgl (y) 1 : Nat), .int .u64 (dgl (y) 2 : Nat), .int .u64 (dgl (y) 3 : Nat), .int .u64 (dgl (y) 4 : Nat), .int .u64 (dgl (y) 5 : Nat), .int .u64 (dgl (y) 6 : Nat), .int .u64 (dgl (y) 7 : Nat)])), (50, .big y 40), (51, .big (x + y) 41), (9, .big (x + y) 41)]
        (fun W => LiesF W p5 (dgl x) ∧ LiesF W p7 (dgl y) ∧ Below w.heap.size w W) mixedOk (by kernel_rfl) (by kernel_rfl) (⟨HF.out.1.below (Below.refl _ _).drew, HF.out.2.1.below (Below.refl _ _).drew, below_trans HF.out.2.2 (Below.refl _ _).drew⟩) (fun W W' h hb => ⟨h.1.below hb, h.2.1.below hb, below_trans h.2.2 hb⟩) ?_ ?_
      · refine gSt (gStep_run rfl ?_) ?_
        · intro ρ W hC hc hf hL
          have e5 : ρ (.tmp 5) = .pointer (some ⟨p5, 0, none⟩) := hL 5 (by decide +kernel)
          have hl := hC.1.1
          simp [go_sem, hc, hf, e5, hl]
          exact ⟨Below.refl _ _, rfl⟩
        refine gSt (gStep_run rfl ?_) ?_
        · intro ρ W hC hc hf hL
          have e47 : ρ (.tmp 47) = .agg #[.int .u64 (dgl (x) 0 : Nat), .int .u64 (dgl (x) 1 : Nat), .int .u64 (dgl (x) 2 : Nat), .int .u64 (dgl (x) 3 : Nat), .int .u64 (dgl (x) 4 : Nat), .int .u64 (dgl (x) 5 : Nat), .int .u64 (dgl (x) 6 : Nat), .int .u64 (dgl (x) 7 : Nat)] := hL 47 (by decide +kernel)
          simp [go_sem, hc, hf, e47]
          refine (HBX.out W).mono ?_
          rintro e w' ⟨v, rfl, hv, hb⟩
          exact ⟨_, rfl, hb, hv⟩
        refine gSt (gStep_run rfl ?_) ?_
        · intro ρ W hC hc hf hL
          have e7 : ρ (.tmp 7) = .pointer (some ⟨p7, 0, none⟩) := hL 7 (by decide +kernel)
          have hl := hC.2.1.1
          simp [go_sem, hc, hf, e7, hl]
          exact ⟨Below.refl _ _, rfl⟩
        refine gSt (gStep_run rfl ?_) ?_
        · intro ρ W hC hc hf hL
          have e49 : ρ (.tmp 49) = .agg #[.int .u64 (dgl (y) 0 : Nat), .int .u64 (dgl (y) 1 : Nat), .int .u64 (dgl (y) 2 : Nat), .int .u64 (dgl (y) 3 : Nat), .int .u64 (dgl (y) 4 : Nat), .int .u64 (dgl (y) 5 : Nat), .int .u64 (dgl (y) 6 : Nat), .int .u64 (dgl (y) 7 : Nat)] := hL 49 (by decide +kernel)
          simp [go_sem, hc, hf, e49]
          refine (HBY.out W).mono ?_
          rintro e w' ⟨v, rfl, hv, hb⟩
          exact ⟨_, rfl, hb, hv⟩
        refine gSt (gStep_run rfl ?_) ?_
        · intro ρ W hC hc hf hL
          have b48 : BigV W (ρ (.tmp 48)) (x) (40) := hL 48 (by decide +kernel)
          have b50 : BigV W (ρ (.tmp 50)) (y) (40) := hL 50 (by decide +kernel)
          simp [go_sem, hc, hf]
          refine (refAdd_any x y 40 40 _ _ _ b48 b50 (by decide) (by decide)).mono ?_
          rintro e w' ⟨v, rfl, hv, hb⟩
          exact ⟨_, rfl, hb, hv⟩
        refine gSt (gStep_run rfl (gRun_move 51 9 (.inr rfl) rfl (by decide +kernel) (fun v w h => h))) ?_
        exact gSt0
      · intro W hC
        refine gFi 47 rfl ?_
        rintro _ rfl
        refine gFi 48 rfl ?_
        rintro u48 b48
        refine gFi 49 rfl ?_
        rintro _ rfl
        refine gFi 50 rfl ?_
        rintro u50 b50
        refine gFi 51 rfl ?_
        rintro u51 b51
        refine gFi 9 rfl ?_
        rintro u9 b9
        refine gFi0 ?_
        simp only [List.drop_succ_cons, List.drop_zero, Act.put, List.setIfInBounds_toArray, List.set_cons_succ, List.set_cons_zero]
        obtain ⟨so, sl, sc, rfl⟩ := bigz_slice b9
        have HB9 := hide b9
        have HBE := hide hC.2.2
        clear hC b48 b50 b51 b9 HF
        have HLN := hide (refLen_any (x + y) 41 _ _ HB9.out (by decide))
        have hok : (ok == ok) = true := by simp
        rcases HSUM.out with hs | hs
        · have hbl : Go.bitLen (x + y) = 0 := (blen0 _).2 hs
          rw [hbl] at HLN
          clear hbl hs HSUM
          go_wp2_with fail
          refine (HLN.out).mono ?_
          rintro e w9 ⟨rfl, hw⟩
          subst hw
          go_wp2_with fail
          refine (HAW.out _).mono ?_
          rintro e w10 ⟨rfl, hb10⟩
          have HB := hide (below_trans HBE.out hb10)
          clear hb10 HBE HB9 HLN
          go_wp2
          go_ret
          exact ⟨rfl, HB.out⟩
        · have hbl : Go.bitLen (x + y) ≠ 0 := by
            intro h
            rw [blen0, hs] at h
            exact absurd h (Nat.ne_of_gt qq_pos)
          obtain ⟨q, hq⟩ : ∃ q, Go.bitLen (x + y) = q := ⟨_, rfl⟩
          rw [hq] at HLN hbl
          have hq0 : (((q : Nat) : Int) == 0) = false := by rw [beq_eq_false_iff_ne]; omega
          have HWH := hide (fun w => refWhole_any w)
          have HS := hide hs
          clear hbl hs HSUM hq
          go_wp2_with fail
          refine (HLN.out).mono ?_
          rintro e w9 ⟨rfl, hw⟩
          subst hw
          go_wp2_with fail
          refine (HWH.out _).mono ?_
          rintro e w10 ⟨v10, rfl, hv10, hb10⟩
          have HCM : Hid (∀ W, Below w10.heap.size w10 W → Calls Try.prog 23 #[.slice so sl sc, v10] W fun e w' => e = .returned (.int .i64 0) ∧ w' = W) := by
            intro W hW
            have h := cmp_any (x + y) QQ 41 19 _ _ W ((HB9.out.below hb10).below hW) (hv10.below hW)
            have e1 : cmpN (x + y) QQ = 0 := by rw [HS.out]; unfold cmpN; simp
            rw [e1] at h
            exact h
          have HB := hide (below_trans HBE.out hb10)
          clear hb10 hv10 HBE HB9 HLN HWH
          go_wp2_with fail
          refine (HCM.out _ (Below.refl _ _)).mono ?_
          rintro e w11 ⟨rfl, hw⟩
          subst hw
          go_wp2_with fail
          refine (HAW.out _).mono ?_
          rintro e w12 ⟨rfl, hb12⟩
          replace HB := hide (below_trans HB.out hb12)
          clear hb12 HCM
          go_wp2
          go_ret
          exact ⟨rfl, HB.out⟩
  

theorem pZ_turn {l L : List Nat} {n : Nat} (hd : allD l n) (hg : ∀ i, i < n → dg L i = nof (ngz (zof (dg l i)))) : ∀ k, k ≤ n → pZ L k = -pZ l k
  | 0, _ => rfl
  | k + 1, hk => by
    have ih := pZ_turn hd hg k (by omega)
    have h1 := isD_iff.1 (hd k (by omega))
    have h2 : zof (dg L k) = -zof (dg l k) := by
      rw [hg k (by omega), ngz_digit (hd k (by omega))]
      exact zof_nof (by omega)
    show 4 * pZ L k + zof (dg L k) = -(4 * pZ l k + zof (dg l k))
    rw [ih, h2]
    omega
theorem qz_neg (z : Int) : qz z + qz (-z) = 0 ∨ qz z + qz (-z) = QQ := by
  obtain ⟨a, ha⟩ := qz_split z
  obtain ⟨b, hb⟩ := qz_split (-z)
  have h1 := qz_lt z
  have h2 := qz_lt (-z)
  have h3 : ((qz z + qz (-z) : Nat) : Int) = (QQ : Int) * (a + b) := by
    rw [Int.mul_add]
    push_cast
    omega
  have hq := qq_pos
  obtain ⟨c, hc⟩ : ∃ c, a + b = c := ⟨_, rfl⟩
  rw [hc] at h3
  have hc0 : 0 ≤ c := by
    rcases Int.lt_or_le c 0 with h | h
    · have : (QQ : Int) * c < 0 := Int.mul_neg_of_pos_of_neg (by omega) h
      omega
    · exact h
  have hc2 : c < 2 := by
    rcases Int.lt_or_le c 2 with h | h
    · exact h
    · have : (QQ : Int) * 2 ≤ (QQ : Int) * c := Int.mul_le_mul_of_nonneg_left h (by omega)
      omega
  rcases (show c = 0 ∨ c = 1 by omega) with rfl | rfl
  · left; omega
  · right; omega

theorem flyTurns_any (l : List Nat) (v : Value) (w : World) (hr : Rd mkZ w v l) (hl : ∀ i, i < l.length → dg l i < 18446744073709551616) :
    Calls Try.prog 6 #[v] w fun e w' => e = .returned (.bool true) ∧ Below w.heap.size w w' := by
  rcases Nat.lt_or_ge 400 l.length with h | h
  · exact flyTurns_long l v w hr h (fun w => awake13_any w)
  · have hz : ∀ (i : Nat) (L : List Nat), i < l.length → dg L i = nof (ngz (zof (dg l i))) → zof (dg L i) = ngz (zof (dg l i)) := fun i L hi hg => by
      have hb := zof_bd (hl i hi)
      rw [hg]
      exact zof_nof (ngz_lo hb.1 hb.2)
    by_cases hd : ∃ i, i < l.length ∧ isD (zof (dg l i)) = false
    · refine flyTurns_walk l v w 0 0 false hr h hl (.inl rfl) (turn_any l v w hr (by omega) hl) (fun W hW => convert_no l v W (hr.below hW) (by omega) hd) (fun u L W hu hL hg => ?_) (fun w => refBig_any 0 qq_pos w) (fun w => refBig_any 0 qq_pos w) (fun w => awake13_any w)
      obtain ⟨i, h1, h2⟩ := hd
      exact convert_no L u W hu (by omega) ⟨i, by omega, by rw [hz i L h1 (hg i h1), isD_ngz]; exact h2⟩
    · have ha : allD l l.length := fun i hi => by
        cases h2 : isD (zof (dg l i))
        · exact absurd ⟨i, hi, h2⟩ hd
        · rfl
      refine flyTurns_walk l v w (qz (pZ l l.length)) (qz (-pZ l l.length)) true hr h hl (qz_neg _) (turn_any l v w hr (by omega) hl) (fun W hW => convert_yes l v W (hr.below hW) (by omega) ha) (fun u L W hu hL hg => ?_) (fun w => refBig_any _ (qz_lt _) w) (fun w => refBig_any _ (qz_lt _) w) (fun w => awake13_any w)
      have h1 := convert_yes L u W hu (by omega) (fun i hi => by rw [hz i L (by omega) (hg i (by omega)), isD_ngz]; exact ha i (by omega))
      rw [hL, pZ_turn ha hg l.length (Nat.le_refl _)] at h1
      exact h1
end Go.Proofs.Ytgnaomgcfliamaa

/- For all lists of ints the law radicandlaw13.FlyTurns returns true and leaves what came in as it was. No conditions. -/
namespace Go.Proofs.Ytgnaomgcfliamaa.flyTurns
open Go.ChangeShapes Go.WideShapes Go.ChangeAt Go.RowKit Go.Proofs.Ytgnaomgcfliamaa

theorem own : ownKnob Try.prog.godebug = none := by kernel_rfl
theorem laidOut : laidOutB Try.prog = true := by kernel_rfl

set_option maxRecDepth 100000 in
theorem lifted (os : Os) (started : os.Started) (H : Type) (enc : TypeId × Value → H) :
    ReturnsInHanded {} Try.checked os 6 .any (Rows.flyTurnsSpec.pre6 enc Try.prog Try.f6 Rows.flyTurnsRow.domain false) (Rows.flyTurnsSpec.post enc Try.prog Try.f6 false true false false) := by
  refine returnsInHanded_of_change (C := Try.checked) own started (by kernel_rfl) Try.func6
    (ChangeSpec.witness6 (enc := enc) (C := Try.checked) false ⟨#[], #[.slice none 0 0], []⟩ 8 (by kernel_rfl) (by kernel_rfl) (by kernel_rfl) (by kernel_rfl)) ?_
  intro W base args ds gs before hval0 hW hcnd _
  have hval : ∀ (j : Nat) t v, Try.f6.params[j]? = some t → args[j]? = some v → Value.okWide Try.prog W .any base t v := hval0
  have hW' := hW
  obtain ⟨p, q, hA0, hV, rfl, hfz, hnd⟩ := hW
  have hA : DataW.TrodAll enc Try.prog W 0 (fun _ => true) true Try.f6.params.toList args.toList ds p := hA0
  rw [Try.params6] at hA hval
  obtain ⟨v0, vs0, d0, ds0, p0, q0, hargs, rfl, rfl, h0, r0⟩ := trodAll_cons hA
  obtain ⟨rfl, rfl, rfl⟩ := trodAll_nil r0
  obtain rfl : args = #[v0] := by cases args; simp_all
  obtain ⟨rfl, rfl⟩ := trodVars_none hV
  have k0 := h0
  have lt0 : ∀ x ∈ p0, x.block < W.heap.size := by obtain ⟨m, hm⟩ := k0; exact DataW.trod_lt m _ _ _ hm
  obtain ⟨a0, len0, cap0, rfl⟩ := okWide_slice Try.underlying22 (hval 0 22 v0 rfl rfl)
  obtain ⟨z0, row0⟩ : ∃ zs, IsRow .i64 W a0 len0 cap0 zs := by
    obtain ⟨fuel, hf⟩ := h0
    rcases open_ints Try.underlying22 Try.underlying3 (by kernel_rfl) hf with ⟨hcs, _⟩ | ⟨x, l, c, zs, hcs, _, hl, hm, hz, _, hcell, hwz⟩
    · simp [Value.cells] at hcs
      obtain ⟨rfl, rfl, rfl⟩ := hcs
      exact ⟨[], .inl ⟨rfl, rfl, rfl, rfl⟩⟩
    · simp [Value.cells] at hcs
      obtain ⟨rfl, rfl, rfl⟩ := hcs
      exact ⟨zs, .inr ⟨_, rfl, hl, hm, by simpa using hz, hcell, hwz⟩⟩
  obtain ⟨l0, len_eq0, rd0, bd0⟩ := row0.rdZ
  clear hA0 hval0
  refine (flyTurns_any l0 (.slice a0 len0 cap0) W rd0 bd0).mono fun e W' ⟨he, bel⟩ => ?_
  subst he
  exact ⟨_, rfl, _, _, _, [], _, [], hW', trodAll_mk1 (shut_bool Try.underlying4 _), (trodAll_cons_mk (Below.trod laidOut (by kernel_rfl) (of_decide_eq_true (by kernel_rfl)) k0 bel lt0) trodAll_mk0), rfl, bel.frame _, fun h => by cases h⟩

theorem over : Rows.flyTurnsRow.holds Try.pinned (OpenSpec.ofChange Rows.flyTurnsSpec) :=
  OpenClaim.holds_of_wide 6 Try.f6 rfl rfl rfl rfl rfl rfl rfl ⟨rfl, rfl, rfl, rfl, rfl⟩ rfl rfl rfl rfl rfl (by kernel_rfl) Try.func6 (by kernel_rfl)
    (of_decide_eq_true (by kernel_rfl)) (by unfold Func.isWrapper; first | (rw [if_pos (by decide +kernel)]; kernel_rfl) | (rw [if_neg (by decide +kernel)]; exact ⟨rfl, rfl⟩))
    (fun os started H enc _ => lifted os started H enc)

theorem proved : Rows.FlyTurnsSaid := over
#print axioms proved
end Go.Proofs.Ytgnaomgcfliamaa.flyTurns

