/- For all lists of ints the law radicandlaw13.FlyConverts returns true and leaves what came in as it was. No conditions. -/
import Derived.Test.YtgnaomgcfliamaaPartAN
import Derived.Test.YtgnaomgcfliamaaRows
import Derived.WalkKit
import Derived.ProofKit
import Derived.OpenShut
import Derived.ShutString
import Derived.ChangeOld
import Derived.Below
/- For all lists of ints the law radicandlaw13.FlyConverts returns true. -/
set_option linter.unusedVariables false
set_option linter.unusedSimpArgs false
set_option maxRecDepth 8000
namespace Go.Proofs.Ytgnaomgcfliamaa
open Go.RowKit Plain

theorem flyConverts_long (l : List Nat) (v : Value) (w : World) (hr : Rd mkZ w v l) (h : 400 < l.length) (HAW : Hid (∀ w, Calls Try.prog 7 #[] w fun e w' => e = .returned (.bool true) ∧ Below w.heap.size w w')) :
    Calls Try.prog 3 #[v] w fun e w' => e = .returned (.bool true) ∧ Below w.heap.size w w' := by
  obtain ⟨ao, ca, rfl, hca, hma, hc⟩ := hr
  unfold maxLen at hma
  have h4 : (400 : Int) < (l.length : Int) := by omega
  clear hc
  go_enter Try.func3, Try.ntmps3
  go_wp2_with fail
  refine (HAW.out _).mono ?_
  rintro e w1 ⟨rfl, hb1⟩
  go_wp2
  go_ret
  exact ⟨rfl, hb1⟩

set_option maxHeartbeats 4000000 in
theorem flyConverts_no (l : List Nat) (v : Value) (w : World) (hr : Rd mkZ w v l) (h : l.length ≤ 400) (hd : ∃ i, i < l.length ∧ isD (zof (dg l i)) = false)
    (HCV : Hid (Calls Try.prog 8 #[v] w fun e w' => e = .returned (.tuple #[.agg #[.int .u64 0, .int .u64 0, .int .u64 0, .int .u64 0, .int .u64 0, .int .u64 0, .int .u64 0, .int .u64 0], .bool false]) ∧ Below w.heap.size w w')) (HAW : Hid (∀ w, Calls Try.prog 7 #[] w fun e w' => e = .returned (.bool true) ∧ Below w.heap.size w w')) :
    Calls Try.prog 3 #[v] w fun e w' => e = .returned (.bool true) ∧ Below w.heap.size w w' := by
  have HD := hide hd
  have hzz : ∀ w, (Op.equalIn 10000 26 (.agg #[.int .u64 0, .int .u64 0, .int .u64 0, .int .u64 0, .int .u64 0, .int .u64 0, .int .u64 0, .int .u64 0]) (.agg #[.int .u64 0, .int .u64 0, .int .u64 0, .int .u64 0, .int .u64 0, .int .u64 0, .int .u64 0, .int .u64 0])).run Try.prog w = .ok true w := fun w => by
    have h := wide_eqz (a := 0) qq_pos w
    rw [decide_eq_true rfl] at h
    exact h
  clear hd
  have HS : Hid (Below w.heap.size w w) := Below.refl _ _
  have h4 : ¬ (400 : Int) < (l.length : Int) := by omega
  obtain ⟨ao, ca, rfl, hca, hma, hc⟩ := hr
  unfold maxLen at hma
  have HCE := hide hc
  clear hc
  go_enter Try.func3, Try.ntmps3
  go_wp2_with fail
  refine (HCV.out).mono ?_
  rintro e w1 ⟨rfl, hb1⟩
  go_upto_region 4 with fail
  have hbw := below_allocs w1 (.cells #[.int .u64 0, .int .u64 0, .int .u64 0, .int .u64 0, .int .u64 0, .int .u64 0, .int .u64 0, .int .u64 0] 26)
  refine wp_gen (fun W => LiesF W w1.heap.size (fun _ => 0) ∧ Below w.heap.size w W) ⟨liesF_new w1 (fun _ => 0) _, below_trans hb1 hbw⟩ ?_
  clear hb1 hbw
  generalize w1.heap.size = p at *
  rintro W4 h4
  have HL := hide h4
  clear h4
  go_wp2
  go_loopw [5] (fun i wr => ∃ k : Nat, k ≤ l.length ∧ i = .int .i64 k ∧ Hid (allD l k) ∧ Hid (LiesF wr p (fun _ => 0) ∧ Below w.heap.size w wr))
    (fun i _ => l.length - (intOf i).toNat)
  case atStart => exact ⟨0, by omega, rfl, fun i hi => absurd hi (by omega), HL⟩
  case round =>
    clear HL
    obtain ⟨k, hk, rfl, HA, HL⟩ := hrel
    by_cases hlt : k < l.length
    · rcases HCE.out with hc | ⟨b, off, rfl, hbl, hcell⟩
      · omega
      · have hck : wr.cell? ⟨b, off + k, none⟩ = some (mkZ (dg l k)) := (HL.out.2.cell (p := ⟨b, off + k, none⟩) hbl).trans (hcell k hlt)
        unfold mkZ at hck
        have hi1 : (k : Int) < (l.length : Int) := by omega
        obtain ⟨z, hz⟩ : ∃ z, zof (dg l k) = z := ⟨_, rfl⟩
        have HZ := hide hz
        rw [hz] at hck
        clear hcell hz
        have HK := hide (fun w => refIs_any z w)
        go_wp2_with fail
        refine (HK.out _).mono ?_
        rintro e w' ⟨rfl, hw⟩
        subst hw
        rcases hdz : isD z with _ | _
        · clear HK hck HZ HA
          have hl := HL.out.1.1
          go_wp2_with fail
          refine (HAW.out _).mono ?_
          rintro e w9 ⟨rfl, hb9⟩
          have HB := hide (below_trans HL.out.2 hb9)
          clear hb9 HL hl
          go_wp2
          go_ret
          exact ⟨rfl, HB.out⟩
        · clear HK hck
          have HN : Hid (allD l (k + 1)) := fun i hi => by
            rcases Nat.lt_or_ge i k with h | h
            · exact HA.out i h
            · have : i = k := by omega
              subst this
              rw [HZ.out]; exact hdz
          clear hdz HZ HA
          go_wp2
          go_roundw
          case rel => exact ⟨k + 1, by omega, by go_num, HN, HL⟩
          case measure => simp [intOf]; omega
    · exfalso
      obtain ⟨i, h1, h2⟩ := HD.out
      rw [HA.out i (by omega)] at h2
      cases h2

set_option maxHeartbeats 4000000 in
theorem flyConverts_yes (l : List Nat) (v : Value) (w : World) (r : Nat) (hr : Rd mkZ w v l) (h : l.length ≤ 400) (hd : allD l l.length)
    (HCV : Hid (Calls Try.prog 8 #[v] w fun e w' => e = .returned (.tuple #[.agg #[.int .u64 (dgl (r) 0 : Nat), .int .u64 (dgl (r) 1 : Nat), .int .u64 (dgl (r) 2 : Nat), .int .u64 (dgl (r) 3 : Nat), .int .u64 (dgl (r) 4 : Nat), .int .u64 (dgl (r) 5 : Nat), .int .u64 (dgl (r) 6 : Nat), .int .u64 (dgl (r) 7 : Nat)], .bool true]) ∧ Below w.heap.size w w'))
    (HSU : Hid (∀ W, Below w.heap.size w W → Calls Try.prog 10 #[v] W fun e w' => ∃ va vb, e = .returned (.tuple #[va, vb]) ∧ BigV w' va (pP l l.length) 10000 ∧ BigV w' vb (pM l l.length) 10000 ∧ Below W.heap.size W w'))
    (HWD : Hid (∀ va vb w, BigV w va (pP l l.length) 10000 → BigV w vb (pM l l.length) 10000 → Calls Try.prog 11 #[va, vb] w fun e w' => e = .returned (.agg #[.int .u64 (dgl (r) 0 : Nat), .int .u64 (dgl (r) 1 : Nat), .int .u64 (dgl (r) 2 : Nat), .int .u64 (dgl (r) 3 : Nat), .int .u64 (dgl (r) 4 : Nat), .int .u64 (dgl (r) 5 : Nat), .int .u64 (dgl (r) 6 : Nat), .int .u64 (dgl (r) 7 : Nat)]) ∧ Below w.heap.size w w'))
    (HQ : Hid (∀ w, (Op.equalIn 10000 26 (.agg #[.int .u64 (dgl (r) 0 : Nat), .int .u64 (dgl (r) 1 : Nat), .int .u64 (dgl (r) 2 : Nat), .int .u64 (dgl (r) 3 : Nat), .int .u64 (dgl (r) 4 : Nat), .int .u64 (dgl (r) 5 : Nat), .int .u64 (dgl (r) 6 : Nat), .int .u64 (dgl (r) 7 : Nat)]) (.agg #[.int .u64 (dgl (r) 0 : Nat), .int .u64 (dgl (r) 1 : Nat), .int .u64 (dgl (r) 2 : Nat), .int .u64 (dgl (r) 3 : Nat), .int .u64 (dgl (r) 4 : Nat), .int .u64 (dgl (r) 5 : Nat), .int .u64 (dgl (r) 6 : Nat), .int .u64 (dgl (r) 7 : Nat)])).run Try.prog w = .ok true w)) (HAW : Hid (∀ w, Calls Try.prog 7 #[] w fun e w' => e = .returned (.bool true) ∧ Below w.heap.size w w')) :
    Calls Try.prog 3 #[v] w fun e w' => e = .returned (.bool true) ∧ Below w.heap.size w w' := by
  have HD := hide hd
  clear hd
  have HS : Hid (Below w.heap.size w w) := Below.refl _ _
  have h4 : ¬ (400 : Int) < (l.length : Int) := by omega
  obtain ⟨ao, ca, rfl, hca, hma, hc⟩ := hr
  unfold maxLen at hma
  have HCE := hide hc
  clear hc
  go_enter Try.func3, Try.ntmps3
  go_wp2_with fail
  refine (HCV.out).mono ?_
  rintro e w1 ⟨rfl, hb1⟩
  go_upto_region 4 with fail
  have hbw := below_allocs w1 (.cells #[.int .u64 (dgl (r) 0 : Nat), .int .u64 (dgl (r) 1 : Nat), .int .u64 (dgl (r) 2 : Nat), .int .u64 (dgl (r) 3 : Nat), .int .u64 (dgl (r) 4 : Nat), .int .u64 (dgl (r) 5 : Nat), .int .u64 (dgl (r) 6 : Nat), .int .u64 (dgl (r) 7 : Nat)] 26)
  refine wp_gen (fun W => LiesF W w1.heap.size (dgl r) ∧ Below w.heap.size w W) ⟨liesF_new w1 (dgl r) _, below_trans hb1 hbw⟩ ?_
  clear hb1 hbw
  generalize w1.heap.size = p at *
  rintro W4 h4
  have HL := hide h4
  clear h4
  go_wp2
  go_loopw [5] (fun i wr => ∃ k : Nat, k ≤ l.length ∧ i = .int .i64 k ∧ Hid (LiesF wr p (dgl r) ∧ Below w.heap.size w wr))
    (fun i _ => l.length - (intOf i).toNat)
  case atStart => exact ⟨0, by omega, rfl, HL⟩
  case round =>
    clear HL
    obtain ⟨k, hk, rfl, HL⟩ := hrel
    by_cases hlt : k < l.length
    · rcases HCE.out with hc | ⟨b, off, rfl, hbl, hcell⟩
      · omega
      · have hck : wr.cell? ⟨b, off + k, none⟩ = some (mkZ (dg l k)) := (HL.out.2.cell (p := ⟨b, off + k, none⟩) hbl).trans (hcell k hlt)
        unfold mkZ at hck
        have hi1 : (k : Int) < (l.length : Int) := by omega
        have HK : Hid (∀ w, Calls Try.prog 9 #[.int .i64 (zof (dg l k))] w fun e w' => e = .returned (.bool true) ∧ w' = w) := fun w => by have h := refIs_any (zof (dg l k)) w; rw [HD.out k hlt] at h; exact h
        clear hcell
        generalize zof (dg l k) = z at *
        go_wp2_with fail
        refine (HK.out _).mono ?_
        rintro e w' ⟨rfl, hw⟩
        subst hw
        clear HK hck
        go_wp2
        go_roundw
        case rel => exact ⟨k + 1, by omega, by go_num, HL⟩
        case measure => simp [intOf]; omega
    · clear HCE
      go_wp2_with fail
      refine (HSU.out _ HL.out.2).mono ?_
      rintro e w9 ⟨va, vb, rfl, hva, hvb, hb9⟩
      have HF : Hid (LiesF w9 p (dgl r) ∧ BigV w9 va (pP l l.length) 10000 ∧ BigV w9 vb (pM l l.length) 10000 ∧ Below w.heap.size w w9) := ⟨HL.out.1.below hb9, hva, hvb, below_trans HL.out.2 hb9⟩
      clear HL hva hvb hb9 HSU
      go_upto_region 10 with fail
      refine wp_region_grow 12 [(44, .val (.bool true)), (45, .val (.bool true)), (46, .val (.agg #[.int .u64 (dgl (r) 0 : Nat), .int .u64 (dgl (r) 1 : Nat), .int .u64 (dgl (r) 2 : Nat), .int .u64 (dgl (r) 3 : Nat), .int .u64 (dgl (r) 4 : Nat), .int .u64 (dgl (r) 5 : Nat), .int .u64 (dgl (r) 6 : Nat), .int .u64 (dgl (r) 7 : Nat)])), (47, .val (va)), (48, .val (vb)), (49, .val (.agg #[.int .u64 (dgl (r) 0 : Nat), .int .u64 (dgl (r) 1 : Nat), .int .u64 (dgl (r) 2 : Nat), .int .u64 (dgl (r) 3 : Nat), .int .u64 (dgl (r) 4 : Nat), .int .u64 (dgl (r) 5 : Nat), .int .u64 (dgl (r) 6 : Nat), .int .u64 (dgl (r) 7 : Nat)])), (50, .val (.bool true)), (51, .val (.bool true)), (52, .val (.bool true)), (53, .val (.bool true)), (54, .val (.bool true)), (2, .val (.bool true))]
        (fun W => LiesF W p (dgl r) ∧ BigV W va (pP l l.length) 10000 ∧ BigV W vb (pM l l.length) 10000 ∧ Below w.heap.size w W) mixedOk (by kernel_rfl) (by kernel_rfl) (⟨HF.out.1.below (Below.refl _ _).drew, HF.out.2.1.below (Below.refl _ _).drew, HF.out.2.2.1.below (Below.refl _ _).drew, below_trans HF.out.2.2.2 (Below.refl _ _).drew⟩) (fun W W' h hb => ⟨h.1.below hb, h.2.1.below hb, h.2.2.1.below hb, below_trans h.2.2.2 hb⟩) ?_ ?_
      · refine gSt (gStep_run rfl (gRun_move 4 44 (.inl rfl) rfl (by decide +kernel) (fun v w h => h))) ?_
        refine gSt (gStep_run rfl (gRun_move 44 45 (.inl rfl) rfl (by decide +kernel) (fun v w h => h))) ?_
        refine gSt (gStep_on 1 45 true rfl rfl (by decide +kernel) (fun v w h => h) ?_) ?_
        · intro ρ W hC hc hf hL
          have e3 : ρ (.tmp 3) = .pointer (some ⟨p, 0, none⟩) := hL 3 (by decide +kernel)
          have hl := hC.1.1
          simp [go_sem, hc, hf, e3, hl]
          exact ⟨Below.refl _ _, rfl⟩
        refine gSt (gStep_on 1 45 true rfl rfl (by decide +kernel) (fun v w h => h) (gRun_move 6 47 (.inl rfl) rfl (by decide +kernel) (fun v w h => h))) ?_
        refine gSt (gStep_on 1 45 true rfl rfl (by decide +kernel) (fun v w h => h) (gRun_move 7 48 (.inl rfl) rfl (by decide +kernel) (fun v w h => h))) ?_
        refine gSt (gStep_on 1 45 true rfl rfl (by decide +kernel) (fun v w h => h) ?_) ?_
        · intro ρ W hC hc hf hL
          have e47 : ρ (.tmp 47) = va := hL 47 (by decide +kernel)
          have e48 : ρ (.tmp 48) = vb := hL 48 (by decide +kernel)
          simp [go_sem, hc, hf, e47, e48]
          refine (HWD.out _ _ W hC.2.1 hC.2.2.1).mono ?_
          rintro e w' ⟨rfl, hb⟩
          exact ⟨_, rfl, by first | exact hb | (subst hb; exact Below.refl _ _), rfl⟩
        refine gSt (gStep_on 1 45 true rfl rfl (by decide +kernel) (fun v w h => h) ?_) ?_
        · intro ρ W hC hc hf hL
          have e46 : ρ (.tmp 46) = .agg #[.int .u64 (dgl (r) 0 : Nat), .int .u64 (dgl (r) 1 : Nat), .int .u64 (dgl (r) 2 : Nat), .int .u64 (dgl (r) 3 : Nat), .int .u64 (dgl (r) 4 : Nat), .int .u64 (dgl (r) 5 : Nat), .int .u64 (dgl (r) 6 : Nat), .int .u64 (dgl (r) 7 : Nat)] := hL 46 (by decide +kernel)
          have e49 : ρ (.tmp 49) = .agg #[.int .u64 (dgl (r) 0 : Nat), .int .u64 (dgl (r) 1 : Nat), .int .u64 (dgl (r) 2 : Nat), .int .u64 (dgl (r) 3 : Nat), .int .u64 (dgl (r) 4 : Nat), .int .u64 (dgl (r) 5 : Nat), .int .u64 (dgl (r) 6 : Nat), .int .u64 (dgl (r) 7 : Nat)] := hL 49 (by decide +kernel)
          have hq := HQ.out W
          simp [go_sem, hc, hf, e46, e49, hq]
          exact ⟨Below.refl _ _, rfl⟩
        refine gSt (gStep_run rfl (gRun_pickT 45 50 51 _ rfl rfl (by decide +kernel) (by decide +kernel) (fun v w h => h) (fun v w h => h))) ?_
        refine gSt (gStep_run rfl (gRun_move 51 52 (.inl rfl) rfl (by decide +kernel) (fun v w h => h))) ?_
        refine gSt (gStep_on 8 52 true rfl rfl (by decide +kernel) (fun v w h => h) ?_) ?_
        · intro ρ W hC hc hf hL
          simp [go_sem, hc, hf]
          refine (HAW.out W).mono ?_
          rintro e w' ⟨rfl, hb⟩
          exact ⟨_, rfl, by first | exact hb | (subst hb; exact Below.refl _ _), rfl⟩
        refine gSt (gStep_run rfl (gRun_pickT 52 53 54 _ rfl rfl (by decide +kernel) (by decide +kernel) (fun v w h => h) (fun v w h => h))) ?_
        refine gSt (gStep_run rfl (gRun_move 54 2 (.inr rfl) rfl (by decide +kernel) (fun v w h => h))) ?_
        exact gSt0
      · intro W hC
        refine gFi 44 rfl ?_
        rintro _ rfl
        refine gFi 45 rfl ?_
        rintro _ rfl
        refine gFi 46 rfl ?_
        rintro _ rfl
        refine gFi 47 rfl ?_
        rintro _ rfl
        refine gFi 48 rfl ?_
        rintro _ rfl
        refine gFi 49 rfl ?_
        rintro _ rfl
        refine gFi 50 rfl ?_
        rintro _ rfl
        refine gFi 51 rfl ?_
        rintro _ rfl
        refine gFi 52 rfl ?_
        rintro _ rfl
        refine gFi 53 rfl ?_
        rintro _ rfl
        refine gFi 54 rfl ?_
        rintro _ rfl
        refine gFi 2 rfl ?_
        rintro _ rfl
        refine gFi0 ?_
        simp only [List.drop_succ_cons, List.drop_zero, Act.put, List.setIfInBounds_toArray, List.set_cons_succ, List.set_cons_zero]
        have HBE := hide hC.2.2.2
        clear hC HF
        go_wp2
        go_ret
        exact ⟨rfl, HBE.out⟩
  

theorem flyConverts_any (l : List Nat) (v : Value) (w : World) (hr : Rd mkZ w v l) :
    Calls Try.prog 3 #[v] w fun e w' => e = .returned (.bool true) ∧ Below w.heap.size w w' := by
  rcases Nat.lt_or_ge 400 l.length with h | h
  · exact flyConverts_long l v w hr h (fun w => awake13_any w)
  · by_cases hd : ∃ i, i < l.length ∧ isD (zof (dg l i)) = false
    · exact flyConverts_no l v w hr h hd (convert_no l v w hr (by omega) hd) (fun w => awake13_any w)
    · have ha : allD l l.length := fun i hi => by
        cases h2 : isD (zof (dg l i))
        · exact absurd ⟨i, hi, h2⟩ hd
        · rfl
      refine flyConverts_yes l v w (qz (pZ l l.length)) hr h ha (convert_yes l v w hr (by omega) ha) (fun W hW => sum13_any l v W (hr.below hW) (by omega) ha) (fun va vb w h1 h2 => ?_) (fun w => ?_) (fun w => awake13_any w)
      · rw [pZ_eq]
        exact wide13_any _ _ 10000 10000 va vb w h1 h2
      · have h := wide_eqb (qz_lt (pZ l l.length)) (qz_lt (pZ l l.length)) w
        rw [decide_eq_true rfl] at h
        exact h
end Go.Proofs.Ytgnaomgcfliamaa

/- For all lists of ints the law radicandlaw13.FlyConverts returns true and leaves what came in as it was. No conditions. -/
namespace Go.Proofs.Ytgnaomgcfliamaa.flyConverts
open Go.ChangeShapes Go.WideShapes Go.ChangeAt Go.RowKit Go.Proofs.Ytgnaomgcfliamaa

theorem own : ownKnob Try.prog.godebug = none := by kernel_rfl
theorem laidOut : laidOutB Try.prog = true := by kernel_rfl

set_option maxRecDepth 100000 in
theorem lifted (os : Os) (started : os.Started) (H : Type) (enc : TypeId × Value → H) :
    ReturnsInHanded {} Try.checked os 3 .any (Rows.flyConvertsSpec.pre6 enc Try.prog Try.f3 Rows.flyConvertsRow.domain false) (Rows.flyConvertsSpec.post enc Try.prog Try.f3 false true false false) := by
  refine returnsInHanded_of_change (C := Try.checked) own started (by kernel_rfl) Try.func3
    (ChangeSpec.witness6 (enc := enc) (C := Try.checked) false ⟨#[], #[.slice none 0 0], []⟩ 8 (by kernel_rfl) (by kernel_rfl) (by kernel_rfl) (by kernel_rfl)) ?_
  intro W base args ds gs before hval0 hW hcnd _
  have hval : ∀ (j : Nat) t v, Try.f3.params[j]? = some t → args[j]? = some v → Value.okWide Try.prog W .any base t v := hval0
  have hW' := hW
  obtain ⟨p, q, hA0, hV, rfl, hfz, hnd⟩ := hW
  have hA : DataW.TrodAll enc Try.prog W 0 (fun _ => true) true Try.f3.params.toList args.toList ds p := hA0
  rw [Try.params3] at hA hval
  obtain ⟨v0, vs0, d0, ds0, p0, q0, hargs, rfl, rfl, h0, r0⟩ := trodAll_cons hA
  obtain ⟨rfl, rfl, rfl⟩ := trodAll_nil r0
  obtain rfl : args = #[v0] := by cases args; simp_all
  obtain ⟨rfl, rfl⟩ := trodVars_none hV
  have k0 := h0
  have lt0 : ∀ x ∈ p0, x.block < W.heap.size := by obtain ⟨m, hm⟩ := k0; exact DataW.trod_lt m _ _ _ hm
  obtain ⟨a0, len0, cap0, rfl⟩ := okWide_slice Try.underlying22 (hval 0 22 v0 rfl rfl)
  obtain ⟨z0, row0⟩ : ∃ zs, IsRow .i64 W a0 len0 cap0 zs := by
    obtain ⟨fuel, hf⟩ := h0
    rcases open_ints Try.underlying22 Try.underlying3 (by kernel_rfl) hf with ⟨hcs, _⟩ | ⟨x, l, c, zs, hcs, _, hl, hm, hz, _, hcell, hwz⟩
    · simp [Value.cells] at hcs
      obtain ⟨rfl, rfl, rfl⟩ := hcs
      exact ⟨[], .inl ⟨rfl, rfl, rfl, rfl⟩⟩
    · simp [Value.cells] at hcs
      obtain ⟨rfl, rfl, rfl⟩ := hcs
      exact ⟨zs, .inr ⟨_, rfl, hl, hm, by simpa using hz, hcell, hwz⟩⟩
  obtain ⟨l0, len_eq0, rd0, bd0⟩ := row0.rdZ
  clear hA0 hval0
  refine (flyConverts_any l0 (.slice a0 len0 cap0) W rd0).mono fun e W' ⟨he, bel⟩ => ?_
  subst he
  exact ⟨_, rfl, _, _, _, [], _, [], hW', trodAll_mk1 (shut_bool Try.underlying4 _), (trodAll_cons_mk (Below.trod laidOut (by kernel_rfl) (of_decide_eq_true (by kernel_rfl)) k0 bel lt0) trodAll_mk0), rfl, bel.frame _, fun h => by cases h⟩

theorem over : Rows.flyConvertsRow.holds Try.pinned (OpenSpec.ofChange Rows.flyConvertsSpec) :=
  OpenClaim.holds_of_wide 3 Try.f3 rfl rfl rfl rfl rfl rfl rfl ⟨rfl, rfl, rfl, rfl, rfl⟩ rfl rfl rfl rfl rfl (by kernel_rfl) Try.func3 (by kernel_rfl)
    (of_decide_eq_true (by kernel_rfl)) (by unfold Func.isWrapper; first | (rw [if_pos (by decide +kernel)]; kernel_rfl) | (rw [if_neg (by decide +kernel)]; exact ⟨rfl, rfl⟩))
    (fun os started H enc _ => lifted os started H enc)

theorem proved : Rows.FlyConvertsSaid := over
#print axioms proved
end Go.Proofs.Ytgnaomgcfliamaa.flyConverts

