/- Contracts and laws: PckH, PckI, PckA, PckB. -/
import Derived.Test.YtpcjdllijkjdkaaGreatDoorPartAZ
import Derived.Test.YtpcjdllijkjdkaaGreatDoorPartAV
import Derived.Test.YtpcjdllijkjdkaaGreatDoorPartAX
import Derived.Test.YtpcjdllijkjdkaaGreatDoorPartAO
import Derived.Test.YtpcjdllijkjdkaaGreatDoorPartAW
/- Contracts: the document's real numbers: At, Of. -/
set_option linter.unusedVariables false
set_option linter.unusedSimpArgs false
set_option maxRecDepth 8000
namespace Go.Proofs.YtpcjdllijkjdkaaGreatDoor
open Go.RowKit Plain


set_option maxHeartbeats 2000000 in
theorem rat_true (w : World) (kd : Nat) (neg od : Bool) (e P r m : Int) (num den K Mn D : Nat) (ao1 ao2 : Option Addr) (l1 ca1 l2 ca2 : Nat)
    (HDN : Hid (∀ W, Below w.heap.size w W → Calls Tryz.prog 63 #[.agg #[.bool neg, .int .i64 (kd : Nat), .slice ao1 l1 ca1, .slice ao2 l2 ca2, .int .i64 e], .int .i64 P, .int .i64 (Mn : Nat)] W fun e' w' => ∃ v, e' = .returned (.tuple #[v, .int .i64 r]) ∧ BigV w' v D 700 ∧ Below W.heap.size W w'))
    (hod : (D % 2 == 1) = od) (hgr : growN m neg od r = true) :
    Calls Tryz.prog 35 #[.agg #[.bool neg, .int .i64 (kd : Nat), .slice ao1 l1 ca1, .slice ao2 l2 ca2, .int .i64 e], .int .i64 P, .int .i64 (Mn : Nat), .int .i64 m] w fun e' w' => ∃ v, e' = .returned (.tuple #[v, .bool (decide (0 < r))]) ∧ BigV w' v (D + 1) 800 ∧ Below w.heap.size w w' := by
  have HS := hide (rlSt_start neg (kd : Nat) e (.slice ao1 l1 ca1) (.slice ao2 l2 ca2) w 45)
  have HOD := hide (fun v W (h : BigV W v D 700) => refOdd_any D 700 v W h)
  rw [hod] at HOD
  have HGR := hide (fun W => refGrows8_any m neg od r W)
  rw [hgr] at HGR
  clear hod hgr
  go_enter Tryz.func35, Tryz.ntmps35
  go_upto_region 1 with fail
  refine wp_gen (fun W => RlSt neg (kd : Nat) e (.slice ao1 l1 ca1) (.slice ao2 l2 ca2) w W) HS.out ?_
  clear HS
  rintro W1 h1
  have HS := hide h1
  clear h1
  have q0 := HS.out.c0
  have q1 := HS.out.c1
  have q2 := HS.out.c2
  have q3 := HS.out.c3
  have q4 := HS.out.c4
  go_wp2_with fail
  refine (HDN.out _ HS.out.bel).mono ?_
  rintro e_ w2 ⟨v2, rfl, hv2, hb2⟩
  obtain ⟨aov, lv, cav, rfl⟩ := hv2.slice
  replace HS := hide (HS.out.below hb2)
  have HV := hide hv2
  clear hb2 hv2 q0 q1 q2 q3 q4
  go_upto_region 2 with fail
  refine wp_gen (fun W => RlSt neg (kd : Nat) e (.slice ao1 l1 ca1) (.slice ao2 l2 ca2) w W ∧ BigV W (.slice aov lv cav) D 700) ⟨HS.out, HV.out⟩ ?_
  clear HS HV
  rintro W2 h2
  refine wp_region_grow 7 [(19, .val (.int .i64 m)), (20, .val (.pointer (some ⟨w.heap.size, 0, none⟩))), (21, .val (.bool neg)), (22, .val (.slice aov lv cav)), (23, .val (.bool od)), (24, .val (.int .i64 r)), (25, .val (.bool true))]
    (fun W => RlSt neg (kd : Nat) e (.slice ao1 l1 ca1) (.slice ao2 l2 ca2) w W ∧ BigV W (.slice aov lv cav) D 700) mixedOk (by kernel_rfl) (by kernel_rfl) (⟨h2.1.below (Below.refl _ _).drew, h2.2.below (Below.refl _ _).drew⟩) (fun W W' h hb => ⟨h.1.below hb, h.2.below hb⟩) ?_ ?_
  · refine gSt (gStep_run rfl (gRun_move 3 19 (.inl rfl) rfl (by decide +kernel) (fun v w h => h))) ?_
    refine gSt (gStep_run rfl ?_) ?_
    · intro ρ W hC hc hf hL
      have e4 : ρ (.tmp 4) = .pointer (some ⟨w.heap.size, 0, none⟩) := hL 4 (by decide +kernel)
      simp [go_sem, hc, hf, e4]
      exact ⟨Below.refl _ _, rfl⟩
    refine gSt (gStep_run rfl ?_) ?_
    · intro ρ W hC hc hf hL
      have e20 : ρ (.tmp 20) = .pointer (some ⟨w.heap.size, 0, none⟩) := hL 20 (by decide +kernel)
      have q0 := hC.1.c0
      simp [go_sem, hc, hf, e20, q0]
      exact ⟨Below.refl _ _, rfl⟩
    refine gSt (gStep_run rfl (gRun_move 10 22 (.inl rfl) rfl (by decide +kernel) (fun v w h => h))) ?_
    refine gSt (gStep_run rfl ?_) ?_
    · intro ρ W hC hc hf hL
      have e22 : ρ (.tmp 22) = .slice aov lv cav := hL 22 (by decide +kernel)
      simp [go_sem, hc, hf, e22]
      refine (HOD.out _ W hC.2).mono ?_
      rintro e w' ⟨rfl, hb⟩
      exact ⟨_, rfl, by first | exact hb | (subst hb; exact Below.refl _ _), rfl⟩
    refine gSt (gStep_run rfl (gRun_move 11 24 (.inl rfl) rfl (by decide +kernel) (fun v w h => h))) ?_
    refine gSt (gStep_run rfl ?_) ?_
    · intro ρ W hC hc hf hL
      have e19 : ρ (.tmp 19) = .int .i64 m := hL 19 (by decide +kernel)
      have e21 : ρ (.tmp 21) = .bool neg := hL 21 (by decide +kernel)
      have e23 : ρ (.tmp 23) = .bool od := hL 23 (by decide +kernel)
      have e24 : ρ (.tmp 24) = .int .i64 r := hL 24 (by decide +kernel)
      simp [go_sem, hc, hf, e19, e21, e23, e24]
      refine (HGR.out W).mono ?_
      rintro e w' ⟨rfl, hb⟩
      exact ⟨_, rfl, by first | exact hb | (subst hb; exact Below.refl _ _), rfl⟩
    exact gSt0
  · intro W hC
    refine gFi 19 rfl ?_
    rintro _ rfl
    refine gFi 20 rfl ?_
    rintro _ rfl
    refine gFi 21 rfl ?_
    rintro _ rfl
    refine gFi 22 rfl ?_
    rintro _ rfl
    refine gFi 23 rfl ?_
    rintro _ rfl
    refine gFi 24 rfl ?_
    rintro _ rfl
    refine gFi 25 rfl ?_
    rintro _ rfl
    refine gFi0 ?_
    simp only [List.drop_succ_cons, List.drop_zero, Act.put, List.setIfInBounds_toArray, List.set_cons_succ, List.set_cons_zero]
    have HS := hide hC.1
    have HV := hide hC.2
    clear hC h2
    go_wp2_with fail
    refine (small_any 1 (by decide) _).mono ?_
    rintro e_ w3 ⟨v3, rfl, hv3, hb3⟩
    replace HS := hide (HS.out.below hb3)
    replace HV := hide (HV.out.below hb3)
    clear hb3
    go_wp2_with fail
    refine (refAdd_any D 1 700 2 _ _ _ HV.out hv3 (by decide) (by decide)).mono ?_
    rintro e_ w4 ⟨v4, rfl, hv4, hb4⟩
    have HB := hide (below_trans HS.out.bel hb4)
    have HV4 := hide (hv4.mono (K' := 800) (by decide))
    clear hb4 hv3 hv4 HS HV
    go_wp2
    exact bodyPost_ret (v := .tuple #[v4, .bool (decide (0 < r))]) (by simp [results, Tryz.results35, go_sem]) rfl ⟨_, rfl, HV4.out, HB.out⟩

set_option maxHeartbeats 2000000 in
theorem rat_false (w : World) (kd : Nat) (neg od : Bool) (e P r m : Int) (num den K Mn D : Nat) (ao1 ao2 : Option Addr) (l1 ca1 l2 ca2 : Nat)
    (HDN : Hid (∀ W, Below w.heap.size w W → Calls Tryz.prog 63 #[.agg #[.bool neg, .int .i64 (kd : Nat), .slice ao1 l1 ca1, .slice ao2 l2 ca2, .int .i64 e], .int .i64 P, .int .i64 (Mn : Nat)] W fun e' w' => ∃ v, e' = .returned (.tuple #[v, .int .i64 r]) ∧ BigV w' v D 700 ∧ Below W.heap.size W w'))
    (hod : (D % 2 == 1) = od) (hgr : growN m neg od r = false) :
    Calls Tryz.prog 35 #[.agg #[.bool neg, .int .i64 (kd : Nat), .slice ao1 l1 ca1, .slice ao2 l2 ca2, .int .i64 e], .int .i64 P, .int .i64 (Mn : Nat), .int .i64 m] w fun e' w' => ∃ v, e' = .returned (.tuple #[v, .bool (decide (0 < r))]) ∧ BigV w' v (D) 800 ∧ Below w.heap.size w w' := by
  have HS := hide (rlSt_start neg (kd : Nat) e (.slice ao1 l1 ca1) (.slice ao2 l2 ca2) w 45)
  have HOD := hide (fun v W (h : BigV W v D 700) => refOdd_any D 700 v W h)
  rw [hod] at HOD
  have HGR := hide (fun W => refGrows8_any m neg od r W)
  rw [hgr] at HGR
  clear hod hgr
  go_enter Tryz.func35, Tryz.ntmps35
  go_upto_region 1 with fail
  refine wp_gen (fun W => RlSt neg (kd : Nat) e (.slice ao1 l1 ca1) (.slice ao2 l2 ca2) w W) HS.out ?_
  clear HS
  rintro W1 h1
  have HS := hide h1
  clear h1
  have q0 := HS.out.c0
  have q1 := HS.out.c1
  have q2 := HS.out.c2
  have q3 := HS.out.c3
  have q4 := HS.out.c4
  go_wp2_with fail
  refine (HDN.out _ HS.out.bel).mono ?_
  rintro e_ w2 ⟨v2, rfl, hv2, hb2⟩
  obtain ⟨aov, lv, cav, rfl⟩ := hv2.slice
  replace HS := hide (HS.out.below hb2)
  have HV := hide hv2
  clear hb2 hv2 q0 q1 q2 q3 q4
  go_upto_region 2 with fail
  refine wp_gen (fun W => RlSt neg (kd : Nat) e (.slice ao1 l1 ca1) (.slice ao2 l2 ca2) w W ∧ BigV W (.slice aov lv cav) D 700) ⟨HS.out, HV.out⟩ ?_
  clear HS HV
  rintro W2 h2
  refine wp_region_grow 7 [(19, .val (.int .i64 m)), (20, .val (.pointer (some ⟨w.heap.size, 0, none⟩))), (21, .val (.bool neg)), (22, .val (.slice aov lv cav)), (23, .val (.bool od)), (24, .val (.int .i64 r)), (25, .val (.bool false))]
    (fun W => RlSt neg (kd : Nat) e (.slice ao1 l1 ca1) (.slice ao2 l2 ca2) w W ∧ BigV W (.slice aov lv cav) D 700) mixedOk (by kernel_rfl) (by kernel_rfl) (⟨h2.1.below (Below.refl _ _).drew, h2.2.below (Below.refl _ _).drew⟩) (fun W W' h hb => ⟨h.1.below hb, h.2.below hb⟩) ?_ ?_
  · refine gSt (gStep_run rfl (gRun_move 3 19 (.inl rfl) rfl (by decide +kernel) (fun v w h => h))) ?_
    refine gSt (gStep_run rfl ?_) ?_
    · intro ρ W hC hc hf hL
      have e4 : ρ (.tmp 4) = .pointer (some ⟨w.heap.size, 0, none⟩) := hL 4 (by decide +kernel)
      simp [go_sem, hc, hf, e4]
      exact ⟨Below.refl _ _, rfl⟩
    refine gSt (gStep_run rfl ?_) ?_
    · intro ρ W hC hc hf hL
      have e20 : ρ (.tmp 20) = .pointer (some ⟨w.heap.size, 0, none⟩) := hL 20 (by decide +kernel)
      have q0 := hC.1.c0
      simp [go_sem, hc, hf, e20, q0]
      exact ⟨Below.refl _ _, rfl⟩
    refine gSt (gStep_run rfl (gRun_move 10 22 (.inl rfl) rfl (by decide +kernel) (fun v w h => h))) ?_
    refine gSt (gStep_run rfl ?_) ?_
    · intro ρ W hC hc hf hL
      have e22 : ρ (.tmp 22) = .slice aov lv cav := hL 22 (by decide +kernel)
      simp [go_sem, hc, hf, e22]
      refine (HOD.out _ W hC.2).mono ?_
      rintro e w' ⟨rfl, hb⟩
      exact ⟨_, rfl, by first | exact hb | (subst hb; exact Below.refl _ _), rfl⟩
    refine gSt (gStep_run rfl (gRun_move 11 24 (.inl rfl) rfl (by decide +kernel) (fun v w h => h))) ?_
    refine gSt (gStep_run rfl ?_) ?_
    · intro ρ W hC hc hf hL
      have e19 : ρ (.tmp 19) = .int .i64 m := hL 19 (by decide +kernel)
      have e21 : ρ (.tmp 21) = .bool neg := hL 21 (by decide +kernel)
      have e23 : ρ (.tmp 23) = .bool od := hL 23 (by decide +kernel)
      have e24 : ρ (.tmp 24) = .int .i64 r := hL 24 (by decide +kernel)
      simp [go_sem, hc, hf, e19, e21, e23, e24]
      refine (HGR.out W).mono ?_
      rintro e w' ⟨rfl, hb⟩
      exact ⟨_, rfl, by first | exact hb | (subst hb; exact Below.refl _ _), rfl⟩
    exact gSt0
  · intro W hC
    refine gFi 19 rfl ?_
    rintro _ rfl
    refine gFi 20 rfl ?_
    rintro _ rfl
    refine gFi 21 rfl ?_
    rintro _ rfl
    refine gFi 22 rfl ?_
    rintro _ rfl
    refine gFi 23 rfl ?_
    rintro _ rfl
    refine gFi 24 rfl ?_
    rintro _ rfl
    refine gFi 25 rfl ?_
    rintro _ rfl
    refine gFi0 ?_
    simp only [List.drop_succ_cons, List.drop_zero, Act.put, List.setIfInBounds_toArray, List.set_cons_succ, List.set_cons_zero]
    have HB := hide hC.1.bel
    have HV4 := hide (hC.2.mono (K' := 800) (by decide))
    clear hC h2
    go_wp2
    exact bodyPost_ret (v := .tuple #[.slice aov lv cav, .bool (decide (0 < r))]) (by simp [results, Tryz.results35, go_sem]) rfl ⟨_, rfl, HV4.out, HB.out⟩

theorem rat_any (kd : Nat) (neg : Bool) (e P r m : Int) (num den K Mn D : Nat) (u : Value) (w : World) (hu : RlV w u neg kd num den e K)
    (hdn : ∀ u W, RlV W u neg kd num den e K → Calls Tryz.prog 63 #[u, .int .i64 P, .int .i64 (Mn : Nat)] W fun e' w' => ∃ v, e' = .returned (.tuple #[v, .int .i64 r]) ∧ BigV w' v D 700 ∧ Below W.heap.size W w') :
    Calls Tryz.prog 35 #[u, .int .i64 P, .int .i64 (Mn : Nat), .int .i64 m] w fun e' w' => ∃ v, e' = .returned (.tuple #[v, .bool (decide (0 < r))]) ∧ BigV w' v (D + (growN m neg (D % 2 == 1) r).toNat) 800 ∧ Below w.heap.size w w' := by
  obtain ⟨v1, v2, rfl, hv1, hv2⟩ := hu
  obtain ⟨ao1, l1, ca1, rfl⟩ := hv1.slice
  obtain ⟨ao2, l2, ca2, rfl⟩ := hv2.slice
  have HD := fun W (hb : Below w.heap.size w W) => hdn _ W ⟨_, _, rfl, hv1.below hb, hv2.below hb⟩
  cases hg : growN m neg (D % 2 == 1) r
  · exact rat_false w kd neg _ e P r m num den K Mn D ao1 ao2 l1 ca1 l2 ca2 HD rfl hg
  · exact rat_true w kd neg _ e P r m num den K Mn D ao1 ao2 l1 ca1 l2 ca2 HD rfl hg

/-- A real number lies in a block. -/
structure RB (W : World) (b : Nat) (neg : Bool) (kd e : Int) (v1 v2 : Value) : Prop where
  c0 : W.cell? ⟨b, 0, none⟩ = some (.bool neg)
  c1 : W.cell? ⟨b, 1, none⟩ = some (.int .i64 kd)
  c2 : W.cell? ⟨b, 2, none⟩ = some v1
  c3 : W.cell? ⟨b, 3, none⟩ = some v2
  c4 : W.cell? ⟨b, 4, none⟩ = some (.int .i64 e)
  no : ∀ i, 5 ≤ i → W.cell? ⟨b, i, none⟩ = none
  s1 : ∃ ao l ca, v1 = .slice ao l ca
  s2 : ∃ ao l ca, v2 = .slice ao l ca
  lt : b < W.heap.size
theorem RB.under {W W' : World} {b : Nat} {neg : Bool} {kd e : Int} {v1 v2 : Value} (h : RB W b neg kd e v1 v2) {C : Nat} (hb : Below C W W') (hc : b < C) : RB W' b neg kd e v1 v2 :=
  ⟨(hb.cell (p := ⟨b, 0, none⟩) hc).trans h.c0, (hb.cell (p := ⟨b, 1, none⟩) hc).trans h.c1, (hb.cell (p := ⟨b, 2, none⟩) hc).trans h.c2, (hb.cell (p := ⟨b, 3, none⟩) hc).trans h.c3, (hb.cell (p := ⟨b, 4, none⟩) hc).trans h.c4, fun i hi => (hb.cell (p := ⟨b, i, none⟩) hc).trans (h.no i hi), h.s1, h.s2, Nat.lt_of_lt_of_le h.lt hb.size⟩
theorem RB.below {W W' : World} {b : Nat} {neg : Bool} {kd e : Int} {v1 v2 : Value} (h : RB W b neg kd e v1 v2) (hb : Below W.heap.size W W') : RB W' b neg kd e v1 v2 := h.under hb h.lt
theorem rb_new (w : World) (neg : Bool) (kd e : Int) (v1 v2 : Value) (h1 : ∃ ao l ca, v1 = .slice ao l ca) (h2 : ∃ ao l ca, v2 = .slice ao l ca) (t : TypeId) : RB (w.alloc (.cells #[.bool neg, .int .i64 kd, v1, v2, .int .i64 e] t)) w.heap.size neg kd e v1 v2 :=
  ⟨by simp [go_sem], by simp [go_sem], by simp [go_sem], by simp [go_sem], by simp [go_sem], fun i hi => by simp [go_sem]; omega, h1, h2, by simp⟩
/-- A number of any length lies elsewhere. -/
theorem BigV.apart {W : World} {v : Value} {s K b : Nat} {neg : Bool} {kd e : Int} {v1 v2 : Value} (h : BigV W v s K) (r : RB W b neg kd e v1 v2) : ∀ W', (∀ c i, c ≠ b → W'.cell? ⟨c, i, none⟩ = W.cell? ⟨c, i, none⟩) → W.heap.size ≤ W'.heap.size → BigV W' v s K := by
  intro W' hw hz
  obtain ⟨l, ⟨ao, cap, rfl, hc, hm, hr⟩, hrest⟩ := h
  refine ⟨l, ⟨ao, cap, rfl, hc, hm, ?_⟩, hrest⟩
  rcases hr with hr | ⟨d, off, rfl, hlt, hcell⟩
  · exact .inl hr
  · rcases Nat.eq_zero_or_pos l.length with hn | hn
    · exact .inl hn
    · refine .inr ⟨d, off, rfl, Nat.lt_of_lt_of_le hlt hz, fun i hi => ?_⟩
      have hne : d ≠ b := fun e => by
        subst e
        have h3 := hcell 0 hn
        rw [Nat.add_zero] at h3
        rcases Nat.lt_or_ge off 5 with ho | ho
        · obtain ⟨_, _, _, s1⟩ := r.s1
          obtain ⟨_, _, _, s2⟩ := r.s2
          match off, ho with
          | 0, _ => rw [r.c0] at h3; cases h3
          | 1, _ => rw [r.c1] at h3; cases h3
          | 2, _ => rw [r.c2, s1] at h3; cases h3
          | 3, _ => rw [r.c3, s2] at h3; cases h3
          | 4, _ => rw [r.c4] at h3; cases h3
        · rw [r.no off ho] at h3; cases h3
      rw [hw d _ hne]
      exact hcell i hi
theorem BigV.set5 {W : World} {v : Value} {s K b : Nat} {neg : Bool} {kd e : Int} {v1 v2 : Value} (h : BigV W v s K) (r : RB W b neg kd e v1 v2) (x0 x1 x2 x3 x4 : Value) : BigV (((((W.setCell ⟨b, 0, none⟩ (x0)).setCell ⟨b, 1, none⟩ (x1)).setCell ⟨b, 2, none⟩ (x2)).setCell ⟨b, 3, none⟩ (x3)).setCell ⟨b, 4, none⟩ (x4)) v s K :=
  h.apart r _ (fun c i hc => by simp [go_sem, hc]) (by simp [go_sem])
theorem BigV.set1 {W : World} {v : Value} {s K b : Nat} {neg : Bool} {kd e : Int} {v1 v2 : Value} (h : BigV W v s K) (r : RB W b neg kd e v1 v2) (i : Nat) (x : Value) : BigV (W.setCell ⟨b, i, none⟩ x) v s K :=
  h.apart r _ (fun c j hc => by simp [go_sem, hc]) (by simp [go_sem])
theorem rb_set5 {W : World} {b : Nat} {neg0 neg : Bool} {kd0 e0 kd e : Int} {y1 y2 v1 v2 : Value} (r : RB W b neg0 kd0 e0 y1 y2) (h1 : ∃ ao l ca, v1 = .slice ao l ca) (h2 : ∃ ao l ca, v2 = .slice ao l ca) : RB (((((W.setCell ⟨b, 0, none⟩ (.bool neg)).setCell ⟨b, 1, none⟩ (.int .i64 kd)).setCell ⟨b, 2, none⟩ (v1)).setCell ⟨b, 3, none⟩ (v2)).setCell ⟨b, 4, none⟩ (.int .i64 e)) b neg kd e v1 v2 := by
  have k0 := r.c0
  have k1 := r.c1
  have k2 := r.c2
  have k3 := r.c3
  have k4 := r.c4
  refine ⟨by simp [go_sem, k0, k1, k2, k3, k4], by simp [go_sem, k0, k1, k2, k3, k4], by simp [go_sem, k0, k1, k2, k3, k4], by simp [go_sem, k0, k1, k2, k3, k4], by simp [go_sem, k0, k1, k2, k3, k4], fun i hi => ?_, h1, h2, by simpa [go_sem] using r.lt⟩
  have h5 := r.no i hi
  simp [go_sem, h5, show ¬ 0 = i by omega, show ¬ 1 = i by omega, show ¬ 2 = i by omega, show ¬ 3 = i by omega, show ¬ 4 = i by omega]
  try omega
theorem bigV_none (W : World) (K : Nat) : BigV W (.slice none 0 0) 0 K := ⟨[], Rd.nil mk32 W, dig_nil, .inl rfl, Nat.zero_le _⟩

end Go.Proofs.YtpcjdllijkjdkaaGreatDoor

/- Contracts: the document's real numbers: Of. -/
set_option linter.unusedVariables false
set_option linter.unusedSimpArgs false
set_option maxRecDepth 8000
namespace Go.Proofs.YtpcjdllijkjdkaaGreatDoor
open Go.RowKit Plain

structure OrSt (neg : Bool) (z : Int) (s : Nat) (w W : World) : Prop where
  n : NB W w.heap.size neg z s
  r : RB W (w.heap.size + 1) false 0 0 (.slice none 0 0) (.slice none 0 0)
  fr : ∀ i, W.frozen? ⟨w.heap.size + 1, i, none⟩ = false
  bel : Below w.heap.size w W
theorem OrSt.under {neg : Bool} {z : Int} {s : Nat} {w W W' : World} (h : OrSt neg z s w W) {C : Nat} (hb : Below C W W') (hc : w.heap.size + 1 < C) : OrSt neg z s w W' :=
  ⟨h.n.under hb (by omega), h.r.under hb hc, fun i => (hb.frozen (p := ⟨w.heap.size + 1, i, none⟩) hc).trans (h.fr i), h.bel.trans (hb.mono (by omega))⟩
theorem OrSt.below {neg : Bool} {z : Int} {s : Nat} {w W W' : World} (h : OrSt neg z s w W) (hb : Below W.heap.size W W') : OrSt neg z s w W' := h.under hb h.r.lt
theorem orSt_start (neg : Bool) (z : Int) (s : Nat) (w : World) (t : TypeId) : OrSt neg z s w ((w.alloc (.cells #[.bool (neg), .int .i64 (z), .int .u64 (dgl (s) 0 : Nat), .int .u64 (dgl (s) 1 : Nat), .int .u64 (dgl (s) 2 : Nat), .int .u64 (dgl (s) 3 : Nat), .int .u64 (dgl (s) 4 : Nat), .int .u64 (dgl (s) 5 : Nat), .int .u64 (dgl (s) 6 : Nat), .int .u64 (dgl (s) 7 : Nat)] 27)).alloc (.cells #[.bool false, .int .i64 0, .slice none 0 0, .slice none 0 0, .int .i64 0] t)) := by
  have h1 := rb_new (w.alloc (.cells #[.bool (neg), .int .i64 (z), .int .u64 (dgl (s) 0 : Nat), .int .u64 (dgl (s) 1 : Nat), .int .u64 (dgl (s) 2 : Nat), .int .u64 (dgl (s) 3 : Nat), .int .u64 (dgl (s) 4 : Nat), .int .u64 (dgl (s) 5 : Nat), .int .u64 (dgl (s) 6 : Nat), .int .u64 (dgl (s) 7 : Nat)] 27)) false 0 0 (.slice none 0 0) (.slice none 0 0) ⟨_, _, _, rfl⟩ ⟨_, _, _, rfl⟩ t
  rw [World.size_alloc] at h1
  exact ⟨(nb_new w neg z s 27).below (below_allocs _ _), h1, fun i => by simp [go_sem], below_trans (below_allocs _ _) (below_allocs _ _)⟩
def SlotIs.rl (neg : Bool) (kd num den : Nat) (e : Int) (K : Nat) : SlotIs := ⟨fun v w => RlV w v neg kd num den e K, fun v w w' hb h => h.below hb⟩
def SlotIs.rbx (B : Nat) (neg : Bool) (kd : Int) (num den : Nat) (e : Int) (K : Nat) : SlotIs :=
  ⟨fun v w => ∃ b v1 v2, v = .pointer (some ⟨b, 0, none⟩) ∧ B ≤ b ∧ RB w b neg kd e v1 v2 ∧ BigV w v1 num K ∧ BigV w v2 den K ∧ ∀ i, w.frozen? ⟨b, i, none⟩ = false,
   fun v w w' hb ⟨b, v1, v2, h1, h2, h3, h4, h5, h6⟩ => ⟨b, v1, v2, h1, h2, h3.below hb, h4.below hb, h5.below hb, fun i => (hb.frozen (p := ⟨b, i, none⟩) h3.lt).trans (h6 i)⟩⟩
theorem rb_two {neg : Bool} {z y : Int} {s n1 n2 K p : Nat} {w W : World} {v1 v2 v3 : Value} (h : OrSt neg z s w W) (r : RB W p neg 1 z v1 v2) (hq : w.heap.size + 1 + 1 ≤ p) (h3 : BigV W v3 n1 K) (h2 : BigV W v2 n2 K) :
    OrSt neg z s w ((W.setCell ⟨p, 2, none⟩ v3).setCell ⟨p, 4, none⟩ (.int .i64 y)) ∧ RB ((W.setCell ⟨p, 2, none⟩ v3).setCell ⟨p, 4, none⟩ (.int .i64 y)) p neg 1 y v3 v2 ∧ BigV ((W.setCell ⟨p, 2, none⟩ v3).setCell ⟨p, 4, none⟩ (.int .i64 y)) v3 n1 K ∧ BigV ((W.setCell ⟨p, 2, none⟩ v3).setCell ⟨p, 4, none⟩ (.int .i64 y)) v2 n2 K := by
  have k0 := r.c0
  have k1 := r.c1
  have k2 := r.c2
  have k3 := r.c3
  have k4 := r.c4
  have hb := ((Below.refl (w.heap.size + 1 + 1) W).setCell (p := ⟨p, 2, none⟩) hq v3).setCell (p := ⟨p, 4, none⟩) hq (.int .i64 y)
  refine ⟨h.under hb (by omega), ⟨by simp [go_sem, k0], by simp [go_sem, k1], by simp [go_sem, k2], by simp [go_sem, k3], by simp [go_sem, k4], fun i hi => ?_, h3.slice, r.s2, by simpa [go_sem] using r.lt⟩, ?_, ?_⟩
  · have h5 := r.no i hi
    have e2 : ¬ 2 = i := by omega
    have e4 : ¬ 4 = i := by omega
    have e2' : ¬ i = 2 := by omega
    have e4' : ¬ i = 4 := by omega
    simp [go_sem, h5, e2, e4, e2', e4']
  · exact h3.apart r _ (fun c i hc => by simp [go_sem, hc]) (by simp [go_sem])
  · exact h2.apart r _ (fun c i hc => by simp [go_sem, hc]) (by simp [go_sem])

set_option maxHeartbeats 4000000 in
theorem rof_false (neg : Bool) (z : Int) (s : Nat) (hs : s < QQ) (hz : -4000000 ≤ z ∧ z ≤ 4000000) (w : World) :
    Calls Tryz.prog 14 #[.agg #[.bool (neg), .int .i64 (z), .int .u64 (dgl (s) 0 : Nat), .int .u64 (dgl (s) 1 : Nat), .int .u64 (dgl (s) 2 : Nat), .int .u64 (dgl (s) 3 : Nat), .int .u64 (dgl (s) 4 : Nat), .int .u64 (dgl (s) 5 : Nat), .int .u64 (dgl (s) 6 : Nat), .int .u64 (dgl (s) 7 : Nat)], .bool false] w fun e w' => ∃ u, e = .returned u ∧ RlV w' u neg 1 s 1 (z) 40 ∧ Below w.heap.size w w' := by
  have HS := hide (orSt_start neg z s w 45)
  have HBG := hide (fun W => refBig_any s hs W)
  clear hs
  go_enter Tryz.func14, Tryz.ntmps14
  go_upto_region 1 with fail
  refine wp_gen (fun W => OrSt neg z s w W) HS.out ?_
  clear HS
  rintro W1 h1
  refine wp_region_storeK 11 [10] [6, 7, 8, 9, 10, 11, 12, 13, 14, 5] (fun bs => [(6, .val (.pointer (some ⟨w.heap.size, 0, none⟩))), (7, .val (.bool neg)), (8, .val (.pointer (some ⟨w.heap.size, 2, none⟩))), (9, .val (.agg #[.int .u64 (dgl (s) 0 : Nat), .int .u64 (dgl (s) 1 : Nat), .int .u64 (dgl (s) 2 : Nat), .int .u64 (dgl (s) 3 : Nat), .int .u64 (dgl (s) 4 : Nat), .int .u64 (dgl (s) 5 : Nat), .int .u64 (dgl (s) 6 : Nat), .int .u64 (dgl (s) 7 : Nat)])), (10, bif bs.headD false then SlotIs.any  else SlotIs.big s 40), (11, bif bs.headD false then SlotIs.any  else SlotIs.big 1 40), (12, .val (.pointer (some ⟨w.heap.size, 1, none⟩))), (13, .val (.int .i64 z)), (14, bif bs.headD false then SlotIs.any  else SlotIs.rl neg 1 s 1 z 40), (5, bif bs.headD false then SlotIs.rbx (w.heap.size + 1 + 1) neg 1 s 1 z 40 else SlotIs.rbx (w.heap.size + 1 + 1) false 0 0 0 0 40)])
    (fun _ W => OrSt neg z s w W) (fun bs => rfl) mixedOk (by kernel_rfl) (by kernel_rfl) (by kernel_rfl) (h1.below (Below.refl _ _).drew) (fun bs W W' h hb => h.below hb) ?_ ?_
  · refine kSt rfl (fun φ hφ => gStep_run rfl ?_) ?_
    · intro ρ W hC hc hf hL
      have e2 : ρ (.tmp 2) = .pointer (some ⟨w.heap.size, 0, none⟩) := hL 2 (by decide +kernel)
      simp [go_sem, hc, hf, e2]
      exact ⟨Below.refl _ _, rfl⟩
    refine kSt rfl (fun φ hφ => gStep_run rfl ?_) ?_
    · intro ρ W hC hc hf hL
      have e6 : ρ (.tmp 6) = .pointer (some ⟨w.heap.size, 0, none⟩) := hL 6 (by decide +kernel)
      have ln := hC.n.n
      simp [go_sem, hc, hf, e6, ln]
      exact ⟨Below.refl _ _, rfl⟩
    refine kSt rfl (fun φ hφ => gStep_run rfl ?_) ?_
    · intro ρ W hC hc hf hL
      have e2 : ρ (.tmp 2) = .pointer (some ⟨w.heap.size, 0, none⟩) := hL 2 (by decide +kernel)
      simp [go_sem, hc, hf, e2]
      exact ⟨Below.refl _ _, rfl⟩
    refine kSt rfl (fun φ hφ => gStep_run rfl ?_) ?_
    · intro ρ W hC hc hf hL
      have e8 : ρ (.tmp 8) = .pointer (some ⟨w.heap.size, 2, none⟩) := hL 8 (by decide +kernel)
      have l0 := hC.n.x0
      have l1 := hC.n.x1
      have l2 := hC.n.x2
      have l3 := hC.n.x3
      have l4 := hC.n.x4
      have l5 := hC.n.x5
      have l6 := hC.n.x6
      have l7 := hC.n.x7
      simp [go_sem, hc, hf, e8, l0, l1, l2, l3, l4, l5, l6, l7]
      exact ⟨Below.refl _ _, rfl⟩
    refine kSt rfl (fun φ hφ => gStep_run rfl ?_) ?_
    · intro ρ W hC hc hf hL
      have hφ0 : φ 10 = false := hφ 10 (by simp) (by kernel_rfl)
      have e9 : ρ (.tmp 9) = .agg #[.int .u64 (dgl (s) 0 : Nat), .int .u64 (dgl (s) 1 : Nat), .int .u64 (dgl (s) 2 : Nat), .int .u64 (dgl (s) 3 : Nat), .int .u64 (dgl (s) 4 : Nat), .int .u64 (dgl (s) 5 : Nat), .int .u64 (dgl (s) 6 : Nat), .int .u64 (dgl (s) 7 : Nat)] := hL 9 (by decide +kernel)
      simp [go_sem, hc, hf, e9]
      refine (HBG.out W).mono ?_
      rintro e w' ⟨v, rfl, hv, hb⟩
      refine ⟨_, rfl, hb, ?_⟩
      show (bif φ 10 then SlotIs.any else SlotIs.big s 40).R _ _
      rw [hφ0]
      exact hv
    refine kSt rfl (fun φ hφ => gStep_run rfl ?_) ?_
    · intro ρ W hC hc hf hL
      have hφ0 : φ 10 = false := hφ 10 (by simp) (by kernel_rfl)
      simp [go_sem, hc, hf]
      refine (small_any 1 (by decide) W).mono ?_
      rintro e w' ⟨v, rfl, hv, hb⟩
      refine ⟨_, rfl, hb, ?_⟩
      show (bif φ 10 then SlotIs.any else SlotIs.big 1 40).R _ _
      rw [hφ0]
      exact BigV.mono hv (by decide)
    refine kSt rfl (fun φ hφ => gStep_run rfl ?_) ?_
    · intro ρ W hC hc hf hL
      have e2 : ρ (.tmp 2) = .pointer (some ⟨w.heap.size, 0, none⟩) := hL 2 (by decide +kernel)
      simp [go_sem, hc, hf, e2]
      exact ⟨Below.refl _ _, rfl⟩
    refine kSt rfl (fun φ hφ => gStep_run rfl ?_) ?_
    · intro ρ W hC hc hf hL
      have e12 : ρ (.tmp 12) = .pointer (some ⟨w.heap.size, 1, none⟩) := hL 12 (by decide +kernel)
      have le := hC.n.e
      simp [go_sem, hc, hf, e12, le]
      exact ⟨Below.refl _ _, rfl⟩
    refine kSt rfl (fun φ hφ => gStep_run rfl ?_) ?_
    · intro ρ W hC hc hf hL
      have hφ0 : φ 10 = false := hφ 10 (by simp) (by kernel_rfl)
      have e7 : ρ (.tmp 7) = .bool neg := hL 7 (by decide +kernel)
      have b10 : (bif φ 10 then SlotIs.any  else SlotIs.big s 40).R (ρ (.tmp 10)) W := hL 10 (by decide +kernel)
      rw [hφ0] at b10
      have b11 : (bif φ 10 then SlotIs.any  else SlotIs.big 1 40).R (ρ (.tmp 11)) W := hL 11 (by decide +kernel)
      rw [hφ0] at b11
      have e13 : ρ (.tmp 13) = .int .i64 z := hL 13 (by decide +kernel)
      obtain ⟨ao1, l1, ca1, e10⟩ := BigV.slice b10
      obtain ⟨ao2, l2, ca2, e11⟩ := BigV.slice b11
      have k1 : BigV W (ρ (.tmp 10)) s 40 := b10
      have k2 : BigV W (ρ (.tmp 11)) 1 40 := b11
      rw [e10] at k1
      rw [e11] at k2
      simp [go_sem, hc, hf, e7, e13, e10, e11]
      refine ⟨Below.refl _ _, ?_⟩
      show (bif φ 10 then SlotIs.any else SlotIs.rl neg 1 s 1 z 40).R _ _
      rw [hφ0]
      exact ⟨_, _, rfl, k1, k2⟩
    refine kSt rfl (fun φ hφ => gStep_run rfl ?_) ?_
    · intro ρ W hC hc hf hL
      have hφ0 : φ 10 = false := hφ 10 (by simp) (by kernel_rfl)
      simp [go_sem, hc, hf]
      refine ⟨below_allocs _ _, ?_⟩
      show (bif φ 10 then SlotIs.rbx (w.heap.size + 1 + 1) neg 1 s 1 z 40 else SlotIs.rbx (w.heap.size + 1 + 1) false 0 0 0 0 40).R _ _
      rw [hφ0]
      exact ⟨_, _, _, rfl, hC.r.lt, rb_new _ _ _ _ _ _ ⟨_, _, _, rfl⟩ ⟨_, _, _, rfl⟩ _, bigV_none _ _, bigV_none _ _, fun i => by simp [go_sem]⟩
    refine kStS rfl ⟨rfl, rfl, ?_⟩ ?_
    · intro φ ρ W hφ hC hc hL
      have b5 := hL 5 (by decide +kernel)
      have b14 := hL 14 (by decide +kernel)
      have bx : (bif φ 10 then SlotIs.rbx (w.heap.size + 1 + 1) neg 1 s 1 z 40 else SlotIs.rbx (w.heap.size + 1 + 1) false 0 0 0 0 40).R (ρ (.tmp 5)) W := hL 5 (by decide +kernel)
      rw [hφ] at bx
      obtain ⟨px, y1, y2, ex, qx, rx, by1, by2, zx⟩ := bx
      have c14 : (bif φ 10 then SlotIs.any else SlotIs.rl neg 1 s 1 z 40).R (ρ (.tmp 14)) W := hL 14 (by decide +kernel)
      rw [hφ] at c14
      obtain ⟨v1, v2, e14, k1, k2⟩ := c14
      obtain ⟨ao1, l1, ca1, rfl⟩ := k1.slice
      obtain ⟨ao2, l2, ca2, rfl⟩ := k2.slice
      have r0 := rx.c0
      have r1 := rx.c1
      have r2 := rx.c2
      have r3 := rx.c3
      have r4 := rx.c4
      have r5 := rx.lt
      refine gUpon_of (((((W.setCell ⟨px, 0, none⟩ (.bool neg)).setCell ⟨px, 1, none⟩ (.int .i64 1)).setCell ⟨px, 2, none⟩ (.slice ao1 l1 ca1)).setCell ⟨px, 3, none⟩ (.slice ao2 l2 ca2)).setCell ⟨px, 4, none⟩ (.int .i64 z)) ?_ (fun _ => ?_)
      · simp [go_sem, hc, ex, e14, r0, r1, r2, r3, r4, r5, zx, gUpon]
      have hs5 : Below (w.heap.size + 1 + 1) W (((((W.setCell ⟨px, 0, none⟩ (.bool neg)).setCell ⟨px, 1, none⟩ (.int .i64 1)).setCell ⟨px, 2, none⟩ (.slice ao1 l1 ca1)).setCell ⟨px, 3, none⟩ (.slice ao2 l2 ca2)).setCell ⟨px, 4, none⟩ (.int .i64 z)) := ((((((Below.refl (w.heap.size + 1 + 1) W).setCell (p := ⟨px, 0, none⟩) (qx) _).setCell (p := ⟨px, 1, none⟩) (qx) _).setCell (p := ⟨px, 2, none⟩) (qx) _).setCell (p := ⟨px, 3, none⟩) (qx) _).setCell (p := ⟨px, 4, none⟩) (qx) _)
      refine ⟨hC.under hs5 (by omega), fun t => ?_⟩
      refine (tbl_imp rfl (fun _ => val_imp) (tbl_imp rfl (fun _ => val_imp) (tbl_imp rfl (fun _ => val_imp) (tbl_imp rfl (fun _ => val_imp) (tbl_imp rfl (fun ht h => ?_) (tbl_imp rfl (fun ht h => ?_) (tbl_imp rfl (fun _ => val_imp) (tbl_imp rfl (fun _ => val_imp) (tbl_imp rfl (fun ht h => ?_) (tbl_imp rfl (fun ht h => ?_) tbl_nil_imp))))))))))
      · subst ht
        show (bif (φ 10 || true) then SlotIs.any else SlotIs.big s 40).R _ _
        rw [Bool.or_true]
        trivial
      · subst ht
        show (bif (φ 10 || true) then SlotIs.any else SlotIs.big 1 40).R _ _
        rw [Bool.or_true]
        trivial
      · subst ht
        show (bif (φ 10 || true) then SlotIs.any else SlotIs.rl neg 1 s 1 z 40).R _ _
        rw [Bool.or_true]
        trivial
      · subst ht
        show (bif (φ 10 || true) then SlotIs.rbx (w.heap.size + 1 + 1) neg 1 s 1 z 40 else SlotIs.rbx (w.heap.size + 1 + 1) false 0 0 0 0 40).R _ _
        rw [Bool.or_true]
        exact ⟨px, _, _, ex, qx, rb_set5 rx ⟨_, _, _, rfl⟩ ⟨_, _, _, rfl⟩, k1.set5 rx _ _ _ _ _, k2.set5 rx _ _ _ _ _, fun i => by simpa [go_sem] using zx i⟩
    exact kSt0
  · intro W hC
    refine gFi 6 rfl ?_
    rintro _ rfl
    refine gFi 7 rfl ?_
    rintro _ rfl
    refine gFi 8 rfl ?_
    rintro _ rfl
    refine gFi 9 rfl ?_
    rintro _ rfl
    refine gFi 10 rfl ?_
    rintro u10 b10
    refine gFi 11 rfl ?_
    rintro u11 b11
    refine gFi 12 rfl ?_
    rintro _ rfl
    refine gFi 13 rfl ?_
    rintro _ rfl
    refine gFi 14 rfl ?_
    rintro u14 b14
    refine gFi 5 rfl ?_
    rintro u5 b5
    refine gFiN rfl ?_
    refine gFi0 ?_
    simp only [List.drop_succ_cons, List.drop_zero, Act.put, List.setIfInBounds_toArray, List.set_cons_succ, List.set_cons_zero]
    obtain ⟨p5, v1, v2, rfl, q5, r5, k1, k2, z5⟩ := b5
    obtain ⟨ao1, l1, ca1, rfl⟩ := k1.slice
    obtain ⟨ao2, l2, ca2, rfl⟩ := k2.slice
    have HS := hide hC
    have HR := hide r5
    have HZ := hide z5
    have H1 := hide k1
    have H2 := hide k2
    have HQ := hide q5
    clear hC r5 z5 k1 k2 h1 b10 b11 b14 q5
    have c0 := HR.out.c0
    have c1 := HR.out.c1
    have c2 := HR.out.c2
    have c3 := HR.out.c3
    have c4 := HR.out.c4
    have d0 := HS.out.r.c0
    have d1 := HS.out.r.c1
    have d2 := HS.out.r.c2
    have d3 := HS.out.r.c3
    have d4 := HS.out.r.c4
    have dl := HS.out.r.lt
    have df := HS.out.fr
    have HB := hide HS.out.bel
    have H1F := hide (H1.out.set5 HS.out.r (.bool neg) (.int .i64 1) (.slice ao1 l1 ca1) (.slice ao2 l2 ca2) (.int .i64 (z)))
    have H2F := hide (H2.out.set5 HS.out.r (.bool neg) (.int .i64 1) (.slice ao1 l1 ca1) (.slice ao2 l2 ca2) (.int .i64 (z)))
    clear HS HR H1 H2
    go_wp2
    exact bodyPost_ret (v := .agg #[.bool neg, .int .i64 1, .slice ao1 l1 ca1, .slice ao2 l2 ca2, .int .i64 (z)]) (by simp [results, Tryz.results14, go_sem, dl, d0, d1, d2, d3, d4]) rfl ⟨_, rfl, ⟨_, _, rfl, H1F.out, H2F.out⟩, (((((HB.out.setCell (p := ⟨w.heap.size + 1, 0, none⟩) (Nat.le_succ _) _).setCell (p := ⟨w.heap.size + 1, 1, none⟩) (Nat.le_succ _) _).setCell (p := ⟨w.heap.size + 1, 2, none⟩) (Nat.le_succ _) _).setCell (p := ⟨w.heap.size + 1, 3, none⟩) (Nat.le_succ _) _).setCell (p := ⟨w.heap.size + 1, 4, none⟩) (Nat.le_succ _) _)⟩

set_option maxHeartbeats 4000000 in
theorem rof_true (neg : Bool) (z : Int) (s : Nat) (hs : s < QQ) (hz : -4000000 ≤ z ∧ z ≤ 4000000) (w : World) :
    Calls Tryz.prog 14 #[.agg #[.bool (neg), .int .i64 (z), .int .u64 (dgl (s) 0 : Nat), .int .u64 (dgl (s) 1 : Nat), .int .u64 (dgl (s) 2 : Nat), .int .u64 (dgl (s) 3 : Nat), .int .u64 (dgl (s) 4 : Nat), .int .u64 (dgl (s) 5 : Nat), .int .u64 (dgl (s) 6 : Nat), .int .u64 (dgl (s) 7 : Nat)], .bool true] w fun e w' => ∃ u, e = .returned u ∧ RlV w' u neg 1 (s * 2 ^ 1 + 1) 1 (z - 1) 80 ∧ Below w.heap.size w w' := by
  have HS := hide (orSt_start neg z s w 45)
  have HBG := hide (fun W => refBig_any s hs W)
  clear hs
  go_enter Tryz.func14, Tryz.ntmps14
  go_upto_region 1 with fail
  refine wp_gen (fun W => OrSt neg z s w W) HS.out ?_
  clear HS
  rintro W1 h1
  refine wp_region_storeK 11 [10] [6, 7, 8, 9, 10, 11, 12, 13, 14, 5] (fun bs => [(6, .val (.pointer (some ⟨w.heap.size, 0, none⟩))), (7, .val (.bool neg)), (8, .val (.pointer (some ⟨w.heap.size, 2, none⟩))), (9, .val (.agg #[.int .u64 (dgl (s) 0 : Nat), .int .u64 (dgl (s) 1 : Nat), .int .u64 (dgl (s) 2 : Nat), .int .u64 (dgl (s) 3 : Nat), .int .u64 (dgl (s) 4 : Nat), .int .u64 (dgl (s) 5 : Nat), .int .u64 (dgl (s) 6 : Nat), .int .u64 (dgl (s) 7 : Nat)])), (10, bif bs.headD false then SlotIs.any  else SlotIs.big s 40), (11, bif bs.headD false then SlotIs.any  else SlotIs.big 1 40), (12, .val (.pointer (some ⟨w.heap.size, 1, none⟩))), (13, .val (.int .i64 z)), (14, bif bs.headD false then SlotIs.any  else SlotIs.rl neg 1 s 1 z 40), (5, bif bs.headD false then SlotIs.rbx (w.heap.size + 1 + 1) neg 1 s 1 z 40 else SlotIs.rbx (w.heap.size + 1 + 1) false 0 0 0 0 40)])
    (fun _ W => OrSt neg z s w W) (fun bs => rfl) mixedOk (by kernel_rfl) (by kernel_rfl) (by kernel_rfl) (h1.below (Below.refl _ _).drew) (fun bs W W' h hb => h.below hb) ?_ ?_
  · refine kSt rfl (fun φ hφ => gStep_run rfl ?_) ?_
    · intro ρ W hC hc hf hL
      have e2 : ρ (.tmp 2) = .pointer (some ⟨w.heap.size, 0, none⟩) := hL 2 (by decide +kernel)
      simp [go_sem, hc, hf, e2]
      exact ⟨Below.refl _ _, rfl⟩
    refine kSt rfl (fun φ hφ => gStep_run rfl ?_) ?_
    · intro ρ W hC hc hf hL
      have e6 : ρ (.tmp 6) = .pointer (some ⟨w.heap.size, 0, none⟩) := hL 6 (by decide +kernel)
      have ln := hC.n.n
      simp [go_sem, hc, hf, e6, ln]
      exact ⟨Below.refl _ _, rfl⟩
    refine kSt rfl (fun φ hφ => gStep_run rfl ?_) ?_
    · intro ρ W hC hc hf hL
      have e2 : ρ (.tmp 2) = .pointer (some ⟨w.heap.size, 0, none⟩) := hL 2 (by decide +kernel)
      simp [go_sem, hc, hf, e2]
      exact ⟨Below.refl _ _, rfl⟩
    refine kSt rfl (fun φ hφ => gStep_run rfl ?_) ?_
    · intro ρ W hC hc hf hL
      have e8 : ρ (.tmp 8) = .pointer (some ⟨w.heap.size, 2, none⟩) := hL 8 (by decide +kernel)
      have l0 := hC.n.x0
      have l1 := hC.n.x1
      have l2 := hC.n.x2
      have l3 := hC.n.x3
      have l4 := hC.n.x4
      have l5 := hC.n.x5
      have l6 := hC.n.x6
      have l7 := hC.n.x7
      simp [go_sem, hc, hf, e8, l0, l1, l2, l3, l4, l5, l6, l7]
      exact ⟨Below.refl _ _, rfl⟩
    refine kSt rfl (fun φ hφ => gStep_run rfl ?_) ?_
    · intro ρ W hC hc hf hL
      have hφ0 : φ 10 = false := hφ 10 (by simp) (by kernel_rfl)
      have e9 : ρ (.tmp 9) = .agg #[.int .u64 (dgl (s) 0 : Nat), .int .u64 (dgl (s) 1 : Nat), .int .u64 (dgl (s) 2 : Nat), .int .u64 (dgl (s) 3 : Nat), .int .u64 (dgl (s) 4 : Nat), .int .u64 (dgl (s) 5 : Nat), .int .u64 (dgl (s) 6 : Nat), .int .u64 (dgl (s) 7 : Nat)] := hL 9 (by decide +kernel)
      simp [go_sem, hc, hf, e9]
      refine (HBG.out W).mono ?_
      rintro e w' ⟨v, rfl, hv, hb⟩
      refine ⟨_, rfl, hb, ?_⟩
      show (bif φ 10 then SlotIs.any else SlotIs.big s 40).R _ _
      rw [hφ0]
      exact hv
    refine kSt rfl (fun φ hφ => gStep_run rfl ?_) ?_
    · intro ρ W hC hc hf hL
      have hφ0 : φ 10 = false := hφ 10 (by simp) (by kernel_rfl)
      simp [go_sem, hc, hf]
      refine (small_any 1 (by decide) W).mono ?_
      rintro e w' ⟨v, rfl, hv, hb⟩
      refine ⟨_, rfl, hb, ?_⟩
      show (bif φ 10 then SlotIs.any else SlotIs.big 1 40).R _ _
      rw [hφ0]
      exact BigV.mono hv (by decide)
    refine kSt rfl (fun φ hφ => gStep_run rfl ?_) ?_
    · intro ρ W hC hc hf hL
      have e2 : ρ (.tmp 2) = .pointer (some ⟨w.heap.size, 0, none⟩) := hL 2 (by decide +kernel)
      simp [go_sem, hc, hf, e2]
      exact ⟨Below.refl _ _, rfl⟩
    refine kSt rfl (fun φ hφ => gStep_run rfl ?_) ?_
    · intro ρ W hC hc hf hL
      have e12 : ρ (.tmp 12) = .pointer (some ⟨w.heap.size, 1, none⟩) := hL 12 (by decide +kernel)
      have le := hC.n.e
      simp [go_sem, hc, hf, e12, le]
      exact ⟨Below.refl _ _, rfl⟩
    refine kSt rfl (fun φ hφ => gStep_run rfl ?_) ?_
    · intro ρ W hC hc hf hL
      have hφ0 : φ 10 = false := hφ 10 (by simp) (by kernel_rfl)
      have e7 : ρ (.tmp 7) = .bool neg := hL 7 (by decide +kernel)
      have b10 : (bif φ 10 then SlotIs.any  else SlotIs.big s 40).R (ρ (.tmp 10)) W := hL 10 (by decide +kernel)
      rw [hφ0] at b10
      have b11 : (bif φ 10 then SlotIs.any  else SlotIs.big 1 40).R (ρ (.tmp 11)) W := hL 11 (by decide +kernel)
      rw [hφ0] at b11
      have e13 : ρ (.tmp 13) = .int .i64 z := hL 13 (by decide +kernel)
      obtain ⟨ao1, l1, ca1, e10⟩ := BigV.slice b10
      obtain ⟨ao2, l2, ca2, e11⟩ := BigV.slice b11
      have k1 : BigV W (ρ (.tmp 10)) s 40 := b10
      have k2 : BigV W (ρ (.tmp 11)) 1 40 := b11
      rw [e10] at k1
      rw [e11] at k2
      simp [go_sem, hc, hf, e7, e13, e10, e11]
      refine ⟨Below.refl _ _, ?_⟩
      show (bif φ 10 then SlotIs.any else SlotIs.rl neg 1 s 1 z 40).R _ _
      rw [hφ0]
      exact ⟨_, _, rfl, k1, k2⟩
    refine kSt rfl (fun φ hφ => gStep_run rfl ?_) ?_
    · intro ρ W hC hc hf hL
      have hφ0 : φ 10 = false := hφ 10 (by simp) (by kernel_rfl)
      simp [go_sem, hc, hf]
      refine ⟨below_allocs _ _, ?_⟩
      show (bif φ 10 then SlotIs.rbx (w.heap.size + 1 + 1) neg 1 s 1 z 40 else SlotIs.rbx (w.heap.size + 1 + 1) false 0 0 0 0 40).R _ _
      rw [hφ0]
      exact ⟨_, _, _, rfl, hC.r.lt, rb_new _ _ _ _ _ _ ⟨_, _, _, rfl⟩ ⟨_, _, _, rfl⟩ _, bigV_none _ _, bigV_none _ _, fun i => by simp [go_sem]⟩
    refine kStS rfl ⟨rfl, rfl, ?_⟩ ?_
    · intro φ ρ W hφ hC hc hL
      have b5 := hL 5 (by decide +kernel)
      have b14 := hL 14 (by decide +kernel)
      have bx : (bif φ 10 then SlotIs.rbx (w.heap.size + 1 + 1) neg 1 s 1 z 40 else SlotIs.rbx (w.heap.size + 1 + 1) false 0 0 0 0 40).R (ρ (.tmp 5)) W := hL 5 (by decide +kernel)
      rw [hφ] at bx
      obtain ⟨px, y1, y2, ex, qx, rx, by1, by2, zx⟩ := bx
      have c14 : (bif φ 10 then SlotIs.any else SlotIs.rl neg 1 s 1 z 40).R (ρ (.tmp 14)) W := hL 14 (by decide +kernel)
      rw [hφ] at c14
      obtain ⟨v1, v2, e14, k1, k2⟩ := c14
      obtain ⟨ao1, l1, ca1, rfl⟩ := k1.slice
      obtain ⟨ao2, l2, ca2, rfl⟩ := k2.slice
      have r0 := rx.c0
      have r1 := rx.c1
      have r2 := rx.c2
      have r3 := rx.c3
      have r4 := rx.c4
      have r5 := rx.lt
      refine gUpon_of (((((W.setCell ⟨px, 0, none⟩ (.bool neg)).setCell ⟨px, 1, none⟩ (.int .i64 1)).setCell ⟨px, 2, none⟩ (.slice ao1 l1 ca1)).setCell ⟨px, 3, none⟩ (.slice ao2 l2 ca2)).setCell ⟨px, 4, none⟩ (.int .i64 z)) ?_ (fun _ => ?_)
      · simp [go_sem, hc, ex, e14, r0, r1, r2, r3, r4, r5, zx, gUpon]
      have hs5 : Below (w.heap.size + 1 + 1) W (((((W.setCell ⟨px, 0, none⟩ (.bool neg)).setCell ⟨px, 1, none⟩ (.int .i64 1)).setCell ⟨px, 2, none⟩ (.slice ao1 l1 ca1)).setCell ⟨px, 3, none⟩ (.slice ao2 l2 ca2)).setCell ⟨px, 4, none⟩ (.int .i64 z)) := ((((((Below.refl (w.heap.size + 1 + 1) W).setCell (p := ⟨px, 0, none⟩) (qx) _).setCell (p := ⟨px, 1, none⟩) (qx) _).setCell (p := ⟨px, 2, none⟩) (qx) _).setCell (p := ⟨px, 3, none⟩) (qx) _).setCell (p := ⟨px, 4, none⟩) (qx) _)
      refine ⟨hC.under hs5 (by omega), fun t => ?_⟩
      refine (tbl_imp rfl (fun _ => val_imp) (tbl_imp rfl (fun _ => val_imp) (tbl_imp rfl (fun _ => val_imp) (tbl_imp rfl (fun _ => val_imp) (tbl_imp rfl (fun ht h => ?_) (tbl_imp rfl (fun ht h => ?_) (tbl_imp rfl (fun _ => val_imp) (tbl_imp rfl (fun _ => val_imp) (tbl_imp rfl (fun ht h => ?_) (tbl_imp rfl (fun ht h => ?_) tbl_nil_imp))))))))))
      · subst ht
        show (bif (φ 10 || true) then SlotIs.any else SlotIs.big s 40).R _ _
        rw [Bool.or_true]
        trivial
      · subst ht
        show (bif (φ 10 || true) then SlotIs.any else SlotIs.big 1 40).R _ _
        rw [Bool.or_true]
        trivial
      · subst ht
        show (bif (φ 10 || true) then SlotIs.any else SlotIs.rl neg 1 s 1 z 40).R _ _
        rw [Bool.or_true]
        trivial
      · subst ht
        show (bif (φ 10 || true) then SlotIs.rbx (w.heap.size + 1 + 1) neg 1 s 1 z 40 else SlotIs.rbx (w.heap.size + 1 + 1) false 0 0 0 0 40).R _ _
        rw [Bool.or_true]
        exact ⟨px, _, _, ex, qx, rb_set5 rx ⟨_, _, _, rfl⟩ ⟨_, _, _, rfl⟩, k1.set5 rx _ _ _ _ _, k2.set5 rx _ _ _ _ _, fun i => by simpa [go_sem] using zx i⟩
    exact kSt0
  · intro W hC
    refine gFi 6 rfl ?_
    rintro _ rfl
    refine gFi 7 rfl ?_
    rintro _ rfl
    refine gFi 8 rfl ?_
    rintro _ rfl
    refine gFi 9 rfl ?_
    rintro _ rfl
    refine gFi 10 rfl ?_
    rintro u10 b10
    refine gFi 11 rfl ?_
    rintro u11 b11
    refine gFi 12 rfl ?_
    rintro _ rfl
    refine gFi 13 rfl ?_
    rintro _ rfl
    refine gFi 14 rfl ?_
    rintro u14 b14
    refine gFi 5 rfl ?_
    rintro u5 b5
    refine gFiN rfl ?_
    refine gFi0 ?_
    simp only [List.drop_succ_cons, List.drop_zero, Act.put, List.setIfInBounds_toArray, List.set_cons_succ, List.set_cons_zero]
    obtain ⟨p5, v1, v2, rfl, q5, r5, k1, k2, z5⟩ := b5
    obtain ⟨ao1, l1, ca1, rfl⟩ := k1.slice
    obtain ⟨ao2, l2, ca2, rfl⟩ := k2.slice
    have HS := hide hC
    have HR := hide r5
    have HZ := hide z5
    have H1 := hide k1
    have H2 := hide k2
    have HQ := hide q5
    clear hC r5 z5 k1 k2 h1 b10 b11 b14 q5
    have c2 := HR.out.c2
    go_wp2_with fail
    refine (refShl_int s 40 1 1 _ _ H1.out (by decide) (by decide) rfl).mono ?_
    rintro e_ w2 ⟨v3, rfl, hv3, hb2⟩
    replace HS := hide (HS.out.below hb2)
    replace HZ := hide (show ∀ i, w2.frozen? ⟨p5, i, none⟩ = false from fun i => (hb2.frozen (p := ⟨p5, i, none⟩) HR.out.lt).trans (HZ.out i))
    replace HR := hide (HR.out.below hb2)
    replace H2 := hide (H2.out.below hb2)
    clear hb2 c2 H1
    go_wp2_with fail
    refine (small_any 1 (by decide) _).mono ?_
    rintro e_ w3 ⟨v4, rfl, hv4, hb3⟩
    replace HS := hide (HS.out.below hb3)
    replace HZ := hide (show ∀ i, w3.frozen? ⟨p5, i, none⟩ = false from fun i => (hb3.frozen (p := ⟨p5, i, none⟩) HR.out.lt).trans (HZ.out i))
    replace HR := hide (HR.out.below hb3)
    replace H2 := hide (H2.out.below hb3)
    replace hv3 := hv3.below hb3
    clear hb3
    go_wp2_with fail
    refine (refAdd_any (s * 2 ^ 1) 1 _ 2 _ _ _ hv3 hv4 (by decide) (by decide)).mono ?_
    rintro e_ w4 ⟨v5, rfl, hv5, hb4⟩
    obtain ⟨ao5, l5, ca5, rfl⟩ := hv5.slice
    replace HS := hide (HS.out.below hb4)
    replace HZ := hide (show ∀ i, w4.frozen? ⟨p5, i, none⟩ = false from fun i => (hb4.frozen (p := ⟨p5, i, none⟩) HR.out.lt).trans (HZ.out i))
    replace HR := hide (HR.out.below hb4)
    replace H2 := hide (H2.out.below hb4)
    have H5 := hide (BigV.mono (K' := 80) hv5 (by decide))
    clear hb4 hv3 hv4 hv5
    have c0 := HR.out.c0
    have c1 := HR.out.c1
    have c2 := HR.out.c2
    have c3 := HR.out.c3
    have c4 := HR.out.c4
    have cl := HR.out.lt
    have cf := HZ.out
    have hw : IntKind.i64.wrap (z - 1) = z - 1 := by rw [IntKind.wrap_i64]; omega
    have HQ2 := hide (show OrSt neg z s w ((w4.setCell ⟨p5, 2, none⟩ (.slice ao5 l5 ca5)).setCell ⟨p5, 4, none⟩ (.int .i64 (z - 1))) ∧ RB ((w4.setCell ⟨p5, 2, none⟩ (.slice ao5 l5 ca5)).setCell ⟨p5, 4, none⟩ (.int .i64 (z - 1))) p5 neg 1 (z - 1) (.slice ao5 l5 ca5) (.slice ao2 l2 ca2) ∧ BigV ((w4.setCell ⟨p5, 2, none⟩ (.slice ao5 l5 ca5)).setCell ⟨p5, 4, none⟩ (.int .i64 (z - 1))) (.slice ao5 l5 ca5) (s * 2 ^ 1 + 1) 80 ∧ BigV ((w4.setCell ⟨p5, 2, none⟩ (.slice ao5 l5 ca5)).setCell ⟨p5, 4, none⟩ (.int .i64 (z - 1))) (.slice ao2 l2 ca2) 1 80 from
      rb_two HS.out HR.out HQ.out H5.out (H2.out.mono (by decide)))
    clear HS HR H5 H2 HZ
    go_upto_region 5 with fail
    refine wp_gen (fun W => OrSt neg z s w W ∧ RB W p5 neg 1 (z - 1) (.slice ao5 l5 ca5) (.slice ao2 l2 ca2) ∧ BigV W (.slice ao5 l5 ca5) (s * 2 ^ 1 + 1) 80 ∧ BigV W (.slice ao2 l2 ca2) 1 80) HQ2.out ?_
    clear HQ2 c0 c1 c2 c3 c4 cl cf hw
    rintro W5 ⟨g1, g2, g3, g4⟩
    have HS := hide g1
    have HR := hide g2
    have H1 := hide g3
    have H2 := hide g4
    clear g1 g2 g3 g4
    have c0 := HR.out.c0
    have c1 := HR.out.c1
    have c2 := HR.out.c2
    have c3 := HR.out.c3
    have c4 := HR.out.c4
    have d0 := HS.out.r.c0
    have d1 := HS.out.r.c1
    have d2 := HS.out.r.c2
    have d3 := HS.out.r.c3
    have d4 := HS.out.r.c4
    have dl := HS.out.r.lt
    have df := HS.out.fr
    have HB := hide HS.out.bel
    have H1F := hide (H1.out.set5 HS.out.r (.bool neg) (.int .i64 1) (.slice ao5 l5 ca5) (.slice ao2 l2 ca2) (.int .i64 (z - 1)))
    have H2F := hide (H2.out.set5 HS.out.r (.bool neg) (.int .i64 1) (.slice ao5 l5 ca5) (.slice ao2 l2 ca2) (.int .i64 (z - 1)))
    clear HS HR H1 H2
    go_wp2
    exact bodyPost_ret (v := .agg #[.bool neg, .int .i64 1, .slice ao5 l5 ca5, .slice ao2 l2 ca2, .int .i64 (z - 1)]) (by simp [results, Tryz.results14, go_sem, dl, d0, d1, d2, d3, d4]) rfl ⟨_, rfl, ⟨_, _, rfl, H1F.out, H2F.out⟩, (((((HB.out.setCell (p := ⟨w.heap.size + 1, 0, none⟩) (Nat.le_succ _) _).setCell (p := ⟨w.heap.size + 1, 1, none⟩) (Nat.le_succ _) _).setCell (p := ⟨w.heap.size + 1, 2, none⟩) (Nat.le_succ _) _).setCell (p := ⟨w.heap.size + 1, 3, none⟩) (Nat.le_succ _) _).setCell (p := ⟨w.heap.size + 1, 4, none⟩) (Nat.le_succ _) _)⟩

end Go.Proofs.YtpcjdllijkjdkaaGreatDoor

/- Contracts: pack.top, Right, precise, odd, beyond, closures; law09's right. -/
set_option linter.unusedVariables false
set_option linter.unusedSimpArgs false
set_option maxRecDepth 8000
namespace Go.Proofs.YtpcjdllijkjdkaaGreatDoor
open Go.RowKit Plain

structure NnSt (neg : Bool) (z : Int) (s : Nat) (w W : World) : Prop where
  n : NB W (w.heap.size) (neg) (z) (s)
  lt : w.heap.size < W.heap.size
  bel : Below w.heap.size w W
theorem NnSt.under {neg : Bool} {z : Int} {s : Nat} {w W W' : World} (h : NnSt neg z s w W) {C : Nat} (hb : Below C W W') (hc : w.heap.size < C) : NnSt neg z s w W' :=
  ⟨h.n.under hb (show w.heap.size < C by omega), Nat.lt_of_lt_of_le h.lt hb.size, h.bel.trans (hb.mono (by omega))⟩
theorem NnSt.below {neg : Bool} {z : Int} {s : Nat} {w W W' : World} (h : NnSt neg z s w W) (hb : Below W.heap.size W W') : NnSt neg z s w W' := h.under hb h.lt
theorem nnSt_start (neg : Bool) (z : Int) (s : Nat) (w : World) : NnSt neg z s w (w.alloc (.cells #[.bool (neg), .int .i64 (z), .int .u64 (dgl (s) 0 : Nat), .int .u64 (dgl (s) 1 : Nat), .int .u64 (dgl (s) 2 : Nat), .int .u64 (dgl (s) 3 : Nat), .int .u64 (dgl (s) 4 : Nat), .int .u64 (dgl (s) 5 : Nat), .int .u64 (dgl (s) 6 : Nat), .int .u64 (dgl (s) 7 : Nat)] 27)) :=
  ⟨nb_new w neg z s 27, by simp, below_allocs _ _⟩
set_option maxHeartbeats 2000000 in
theorem ptop_any (neg : Bool) (z : Int) (s : Nat) (hs : s < QQ) (hz : -4000000 ≤ z ∧ z ≤ 4000000) (w : World) : Calls Tryz.prog 21 #[.agg #[.bool (neg), .int .i64 (z), .int .u64 (dgl (s) 0 : Nat), .int .u64 (dgl (s) 1 : Nat), .int .u64 (dgl (s) 2 : Nat), .int .u64 (dgl (s) 3 : Nat), .int .u64 (dgl (s) 4 : Nat), .int .u64 (dgl (s) 5 : Nat), .int .u64 (dgl (s) 6 : Nat), .int .u64 (dgl (s) 7 : Nat)]] w fun e w' => e = .returned (.int .i64 (z + (Go.bitLen s : Int) - 1)) ∧ Below w.heap.size w w' := by
  have HS := hide (nnSt_start neg z s w)
  have HLN := hide (fun w => wideLen_any s hs w)
  have hl := len_qq hs
  clear hs
  generalize Go.bitLen s = l at *
  go_enter Tryz.func21, Tryz.ntmps21
  go_upto_region 1 with fail
  refine wp_gen (fun W => NnSt neg z s w W) HS.out ?_
  clear HS
  rintro W1 h1
  refine wp_region_grow 8 [(3, .val (.pointer (some ⟨w.heap.size, 1, none⟩))), (4, .val (.int .i64 z)), (5, .val (.pointer (some ⟨w.heap.size, 2, none⟩))), (6, .val (.agg #[.int .u64 (dgl (s) 0 : Nat), .int .u64 (dgl (s) 1 : Nat), .int .u64 (dgl (s) 2 : Nat), .int .u64 (dgl (s) 3 : Nat), .int .u64 (dgl (s) 4 : Nat), .int .u64 (dgl (s) 5 : Nat), .int .u64 (dgl (s) 6 : Nat), .int .u64 (dgl (s) 7 : Nat)])), (7, .val (.int .i64 (l : Nat))), (8, .val (.int .i64 (z + (l : Int)))), (9, .val (.int .i64 (z + (l : Int) - 1))), (2, .val (.int .i64 (z + (l : Int) - 1)))]
    (fun W => NnSt neg z s w W) mixedOk (by kernel_rfl) (by kernel_rfl) (h1.below (Below.refl _ _).drew) (fun W W' h hb => h.below hb) ?_ ?_
  · refine gSt (gStep_run rfl ?_) ?_
    · intro ρ W hC hc hf hL
      have e1 : ρ (.tmp 1) = .pointer (some ⟨w.heap.size, 0, none⟩) := hL 1 (by decide +kernel)
      simp [go_sem, hc, hf, e1]
      exact ⟨Below.refl _ _, rfl⟩
    refine gSt (gStep_run rfl ?_) ?_
    · intro ρ W hC hc hf hL
      have e3 : ρ (.tmp 3) = .pointer (some ⟨w.heap.size, 1, none⟩) := hL 3 (by decide +kernel)
      have q := hC.n.e
      simp [go_sem, hc, hf, e3, q]
      exact ⟨Below.refl _ _, rfl⟩
    refine gSt (gStep_run rfl ?_) ?_
    · intro ρ W hC hc hf hL
      have e1 : ρ (.tmp 1) = .pointer (some ⟨w.heap.size, 0, none⟩) := hL 1 (by decide +kernel)
      simp [go_sem, hc, hf, e1]
      exact ⟨Below.refl _ _, rfl⟩
    refine gSt (gStep_run rfl ?_) ?_
    · intro ρ W hC hc hf hL
      have e5 : ρ (.tmp 5) = .pointer (some ⟨w.heap.size, 2, none⟩) := hL 5 (by decide +kernel)
      have q0 := hC.n.x0
      have q1 := hC.n.x1
      have q2 := hC.n.x2
      have q3 := hC.n.x3
      have q4 := hC.n.x4
      have q5 := hC.n.x5
      have q6 := hC.n.x6
      have q7 := hC.n.x7
      simp [go_sem, hc, hf, e5, q0, q1, q2, q3, q4, q5, q6, q7]
      exact ⟨Below.refl _ _, rfl⟩
    refine gSt (gStep_run rfl ?_) ?_
    · intro ρ W hC hc hf hL
      have e6 : ρ (.tmp 6) = .agg #[.int .u64 (dgl (s) 0 : Nat), .int .u64 (dgl (s) 1 : Nat), .int .u64 (dgl (s) 2 : Nat), .int .u64 (dgl (s) 3 : Nat), .int .u64 (dgl (s) 4 : Nat), .int .u64 (dgl (s) 5 : Nat), .int .u64 (dgl (s) 6 : Nat), .int .u64 (dgl (s) 7 : Nat)] := hL 6 (by decide +kernel)
      simp [go_sem, hc, hf, e6]
      refine (HLN.out W).mono ?_
      rintro e w' ⟨rfl, hb⟩
      exact ⟨_, rfl, by first | exact hb | (subst hb; exact Below.refl _ _), rfl⟩
    refine gSt (gStep_run rfl ?_) ?_
    · intro ρ W hC hc hf hL
      have e4 : ρ (.tmp 4) = .int .i64 z := hL 4 (by decide +kernel)
      have e7 : ρ (.tmp 7) = .int .i64 (l : Nat) := hL 7 (by decide +kernel)
      have hw : IntKind.i64.wrap (z + (l : Int)) = z + (l : Int) := by rw [IntKind.wrap_i64]; omega
      simp [go_sem, hc, hf, e4, e7, hw]
      exact ⟨Below.refl _ _, rfl⟩
    refine gSt (gStep_run rfl ?_) ?_
    · intro ρ W hC hc hf hL
      have e8 : ρ (.tmp 8) = .int .i64 (z + (l : Int)) := hL 8 (by decide +kernel)
      have hw : IntKind.i64.wrap (z + (l : Int) - 1) = z + (l : Int) - 1 := by rw [IntKind.wrap_i64]; omega
      simp [go_sem, hc, hf, e8, hw]
      exact ⟨Below.refl _ _, rfl⟩
    refine gSt (gStep_run rfl (gRun_move 9 2 (.inr rfl) rfl (by decide +kernel) (fun v w h => h))) ?_
    exact gSt0
  · intro W hC
    refine gFi 3 rfl ?_
    rintro _ rfl
    refine gFi 4 rfl ?_
    rintro _ rfl
    refine gFi 5 rfl ?_
    rintro _ rfl
    refine gFi 6 rfl ?_
    rintro _ rfl
    refine gFi 7 rfl ?_
    rintro _ rfl
    refine gFi 8 rfl ?_
    rintro _ rfl
    refine gFi 9 rfl ?_
    rintro _ rfl
    refine gFi 2 rfl ?_
    rintro _ rfl
    refine gFi0 ?_
    simp only [List.drop_succ_cons, List.drop_zero, Act.put, List.setIfInBounds_toArray, List.set_cons_succ, List.set_cons_zero]
    have HB := hide hC.bel
    clear hC h1
    go_wp2
    go_ret
    exact ⟨rfl, HB.out⟩

/-- May a number be rounded to so many digits? -/
def rightB (p z : Int) (s : Nat) (more : Bool) : Bool := decide (1 ≤ p) && (decide (p ≤ 500) && (rgt z && (decide (Go.bitLen s ≤ 511) && (!more || decide (p < (Go.bitLen s : Int))))))

set_option maxHeartbeats 4000000 in
theorem pright_any (p z : Int) (neg more : Bool) (s : Nat) (hs : s < QQ) (w : World) : Calls Tryz.prog 17 #[.int .i64 p, .agg #[.bool (neg), .int .i64 (z), .int .u64 (dgl (s) 0 : Nat), .int .u64 (dgl (s) 1 : Nat), .int .u64 (dgl (s) 2 : Nat), .int .u64 (dgl (s) 3 : Nat), .int .u64 (dgl (s) 4 : Nat), .int .u64 (dgl (s) 5 : Nat), .int .u64 (dgl (s) 6 : Nat), .int .u64 (dgl (s) 7 : Nat)], .bool more] w fun e w' => e = .returned (.bool (rightB p z s more)) ∧ Below w.heap.size w w' := by
  have HS := hide (nnSt_start neg z s w)
  have HLN := hide (fun w => wideLen_any s hs w)
  have HRI := hide (fun w => uRight_any neg z s w)
  have hl := len_qq hs
  clear hs
  have HD : Hid (∀ b, decide (1 ≤ p) = b → rightB p z s more = (b && (decide (p ≤ 500) && (rgt z && (decide (Go.bitLen s ≤ 511) && (!more || decide (p < (Go.bitLen s : Int)))))))) := fun b h => by rw [← h]; rfl
  generalize Go.bitLen s = l at *
  generalize rightB p z s more = R at *
  generalize rgt z = rg at *
  go_enter Tryz.func17, Tryz.ntmps17
  go_upto_region 1 with fail
  refine wp_gen (fun W => NnSt neg z s w W) HS.out ?_
  clear HS
  rintro W1 h1
  have HS := hide h1
  clear h1
  by_cases hp1 : 1 ≤ p
  · by_cases hp2 : p ≤ 500
    · cases rg
      · have hq1 : ¬ p < 1 := by omega
        have hq2 : ¬ (500 : Int) < p := by omega
        have ln := HS.out.n.n
        have le := HS.out.n.e
        have l0 := HS.out.n.x0
        have l1 := HS.out.n.x1
        have l2 := HS.out.n.x2
        have l3 := HS.out.n.x3
        have l4 := HS.out.n.x4
        have l5 := HS.out.n.x5
        have l6 := HS.out.n.x6
        have l7 := HS.out.n.x7
        go_wp2_with fail
        refine (HRI.out _).mono ?_
        rintro e w4 ⟨rfl, hb4⟩
        replace HS := hide (HS.out.below hb4)
        clear hb4
        clear ln le l0 l1 l2 l3 l4 l5 l6 l7
        have HR : Hid (R = false) := by unfold Hid; rw [HD.out _ (decide_eq_true hp1), decide_eq_true hp2]; rfl
        have HB := hide HS.out.bel
        clear HS
        go_wp2
        go_ret
        exact ⟨ret_bl HR.out.symm, HB.out⟩
      · by_cases hl5 : l ≤ 511
        · cases more
          · have hq1 : ¬ p < 1 := by omega
            have hq2 : ¬ (500 : Int) < p := by omega
            have ln := HS.out.n.n
            have le := HS.out.n.e
            have l0 := HS.out.n.x0
            have l1 := HS.out.n.x1
            have l2 := HS.out.n.x2
            have l3 := HS.out.n.x3
            have l4 := HS.out.n.x4
            have l5 := HS.out.n.x5
            have l6 := HS.out.n.x6
            have l7 := HS.out.n.x7
            go_wp2_with fail
            refine (HRI.out _).mono ?_
            rintro e w4 ⟨rfl, hb4⟩
            replace HS := hide (HS.out.below hb4)
            clear hb4
            clear ln le l0 l1 l2 l3 l4 l5 l6 l7
            have ln := HS.out.n.n
            have le := HS.out.n.e
            have l0 := HS.out.n.x0
            have l1 := HS.out.n.x1
            have l2 := HS.out.n.x2
            have l3 := HS.out.n.x3
            have l4 := HS.out.n.x4
            have l5 := HS.out.n.x5
            have l6 := HS.out.n.x6
            have l7 := HS.out.n.x7
            go_wp2_with fail
            refine (HLN.out _).mono ?_
            rintro e w3 ⟨rfl, hb3⟩
            replace HS := hide (HS.out.below hb3)
            clear hb3
            clear ln le l0 l1 l2 l3 l4 l5 l6 l7
            have HR : Hid (R = true) := by unfold Hid; rw [HD.out _ (decide_eq_true hp1), decide_eq_true hp2, decide_eq_true hl5]; rfl
            have hl6 : (l : Int) ≤ 511 := by omega
            have HB := hide HS.out.bel
            clear HS
            go_wp2
            go_ret
            exact ⟨ret_bl HR.out.symm, HB.out⟩
          · have hq1 : ¬ p < 1 := by omega
            have hq2 : ¬ (500 : Int) < p := by omega
            have ln := HS.out.n.n
            have le := HS.out.n.e
            have l0 := HS.out.n.x0
            have l1 := HS.out.n.x1
            have l2 := HS.out.n.x2
            have l3 := HS.out.n.x3
            have l4 := HS.out.n.x4
            have l5 := HS.out.n.x5
            have l6 := HS.out.n.x6
            have l7 := HS.out.n.x7
            go_wp2_with fail
            refine (HRI.out _).mono ?_
            rintro e w4 ⟨rfl, hb4⟩
            replace HS := hide (HS.out.below hb4)
            clear hb4
            clear ln le l0 l1 l2 l3 l4 l5 l6 l7
            have ln := HS.out.n.n
            have le := HS.out.n.e
            have l0 := HS.out.n.x0
            have l1 := HS.out.n.x1
            have l2 := HS.out.n.x2
            have l3 := HS.out.n.x3
            have l4 := HS.out.n.x4
            have l5 := HS.out.n.x5
            have l6 := HS.out.n.x6
            have l7 := HS.out.n.x7
            go_wp2_with fail
            refine (HLN.out _).mono ?_
            rintro e w3 ⟨rfl, hb3⟩
            replace HS := hide (HS.out.below hb3)
            clear hb3
            clear ln le l0 l1 l2 l3 l4 l5 l6 l7
            have HR : Hid (R = decide (p < (l : Int))) := by unfold Hid; rw [HD.out _ (decide_eq_true hp1), decide_eq_true hp2, decide_eq_true hl5]; rfl
            have hl6 : (l : Int) ≤ 511 := by omega
            have HB := hide HS.out.bel
            clear HS
            go_wp2
            go_ret
            exact ⟨ret_bl HR.out.symm, HB.out⟩
        · have hq1 : ¬ p < 1 := by omega
          have hq2 : ¬ (500 : Int) < p := by omega
          have ln := HS.out.n.n
          have le := HS.out.n.e
          have l0 := HS.out.n.x0
          have l1 := HS.out.n.x1
          have l2 := HS.out.n.x2
          have l3 := HS.out.n.x3
          have l4 := HS.out.n.x4
          have l5 := HS.out.n.x5
          have l6 := HS.out.n.x6
          have l7 := HS.out.n.x7
          go_wp2_with fail
          refine (HRI.out _).mono ?_
          rintro e w4 ⟨rfl, hb4⟩
          replace HS := hide (HS.out.below hb4)
          clear hb4
          clear ln le l0 l1 l2 l3 l4 l5 l6 l7
          have ln := HS.out.n.n
          have le := HS.out.n.e
          have l0 := HS.out.n.x0
          have l1 := HS.out.n.x1
          have l2 := HS.out.n.x2
          have l3 := HS.out.n.x3
          have l4 := HS.out.n.x4
          have l5 := HS.out.n.x5
          have l6 := HS.out.n.x6
          have l7 := HS.out.n.x7
          go_wp2_with fail
          refine (HLN.out _).mono ?_
          rintro e w3 ⟨rfl, hb3⟩
          replace HS := hide (HS.out.below hb3)
          clear hb3
          clear ln le l0 l1 l2 l3 l4 l5 l6 l7
          have HR : Hid (R = false) := by unfold Hid; rw [HD.out _ (decide_eq_true hp1), decide_eq_true hp2, decide_eq_false hl5]; rfl
          have hl6 : ¬ (l : Int) ≤ 511 := by omega
          have HB := hide HS.out.bel
          clear HS
          go_wp2
          go_ret
          exact ⟨ret_bl HR.out.symm, HB.out⟩
    · have HR : Hid (R = false) := by unfold Hid; rw [HD.out _ (decide_eq_true (by omega)), decide_eq_false (show ¬ p ≤ 500 by omega)]; rfl
      have hq1 : ¬ p < 1 := by omega
      have hq2 : (500 : Int) < p := by omega
      have HB := hide HS.out.bel
      clear HS
      go_wp2
      go_ret
      exact ⟨ret_bl HR.out.symm, HB.out⟩
  · have HR : Hid (R = false) := by unfold Hid; rw [HD.out _ (decide_eq_false (by omega))]; rfl
    have hq1 : p < 1 := by omega
    have HB := hide HS.out.bel
    clear HS
    go_wp2
    go_ret
    exact ⟨ret_bl HR.out.symm, HB.out⟩

set_option maxHeartbeats 4000000 in
theorem lright_any (p z : Int) (neg more : Bool) (s : Nat) (hs : s < QQ) (w : World) : Calls Tryz.prog 7 #[.int .i64 p, .agg #[.bool (neg), .int .i64 (z), .int .u64 (dgl (s) 0 : Nat), .int .u64 (dgl (s) 1 : Nat), .int .u64 (dgl (s) 2 : Nat), .int .u64 (dgl (s) 3 : Nat), .int .u64 (dgl (s) 4 : Nat), .int .u64 (dgl (s) 5 : Nat), .int .u64 (dgl (s) 6 : Nat), .int .u64 (dgl (s) 7 : Nat)], .bool more] w fun e w' => e = .returned (.bool (rightB p z s more)) ∧ Below w.heap.size w w' := by
  have HS := hide (nnSt_start neg z s w)
  have HBG := hide (fun w => refBig_any s hs w)
  have HLN := hide (fun v w h => refLen_any s 40 v w h (by decide))
  have HRI := hide (fun w => refRight_any neg z s w)
  have hl := len_qq hs
  clear hs
  have HD : Hid (∀ b, decide (1 ≤ p) = b → rightB p z s more = (b && (decide (p ≤ 500) && (rgt z && (decide (Go.bitLen s ≤ 511) && (!more || decide (p < (Go.bitLen s : Int)))))))) := fun b h => by rw [← h]; rfl
  generalize Go.bitLen s = l at *
  generalize rightB p z s more = R at *
  generalize rgt z = rg at *
  go_enter Tryz.func7, Tryz.ntmps7
  go_upto_region 1 with fail
  refine wp_gen (fun W => NnSt neg z s w W) HS.out ?_
  clear HS
  rintro W1 h1
  have HS := hide h1
  clear h1
  by_cases hp1 : 1 ≤ p
  · by_cases hp2 : p ≤ 500
    · cases rg
      · have ln := HS.out.n.n
        have le := HS.out.n.e
        have l0 := HS.out.n.x0
        have l1 := HS.out.n.x1
        have l2 := HS.out.n.x2
        have l3 := HS.out.n.x3
        have l4 := HS.out.n.x4
        have l5 := HS.out.n.x5
        have l6 := HS.out.n.x6
        have l7 := HS.out.n.x7
        go_wp2_with fail
        refine (HBG.out _).mono ?_
        rintro e w2 ⟨v2, rfl, hv2, hb2⟩
        replace HS := hide (HS.out.below hb2)
        clear hb2
        go_wp2_with fail
        refine (HLN.out _ _ hv2).mono ?_
        rintro e w3 ⟨rfl, hw⟩
        subst w3
        clear hv2
        clear ln le l0 l1 l2 l3 l4 l5 l6 l7
        have hq1 : ¬ p < 1 := by omega
        have hq2 : ¬ (500 : Int) < p := by omega
        have ln := HS.out.n.n
        have le := HS.out.n.e
        have l0 := HS.out.n.x0
        have l1 := HS.out.n.x1
        have l2 := HS.out.n.x2
        have l3 := HS.out.n.x3
        have l4 := HS.out.n.x4
        have l5 := HS.out.n.x5
        have l6 := HS.out.n.x6
        have l7 := HS.out.n.x7
        go_wp2_with fail
        refine (HRI.out _).mono ?_
        rintro e w4 ⟨rfl, hb4⟩
        replace HS := hide (HS.out.below hb4)
        clear hb4
        clear ln le l0 l1 l2 l3 l4 l5 l6 l7
        have HR : Hid (R = false) := by unfold Hid; rw [HD.out _ (decide_eq_true hp1), decide_eq_true hp2]; rfl
        have HB := hide HS.out.bel
        clear HS
        go_wp2
        go_ret
        exact ⟨ret_bl HR.out.symm, HB.out⟩
      · by_cases hl5 : l ≤ 511
        · cases more
          · have ln := HS.out.n.n
            have le := HS.out.n.e
            have l0 := HS.out.n.x0
            have l1 := HS.out.n.x1
            have l2 := HS.out.n.x2
            have l3 := HS.out.n.x3
            have l4 := HS.out.n.x4
            have l5 := HS.out.n.x5
            have l6 := HS.out.n.x6
            have l7 := HS.out.n.x7
            go_wp2_with fail
            refine (HBG.out _).mono ?_
            rintro e w2 ⟨v2, rfl, hv2, hb2⟩
            replace HS := hide (HS.out.below hb2)
            clear hb2
            go_wp2_with fail
            refine (HLN.out _ _ hv2).mono ?_
            rintro e w3 ⟨rfl, hw⟩
            subst w3
            clear hv2
            clear ln le l0 l1 l2 l3 l4 l5 l6 l7
            have hq1 : ¬ p < 1 := by omega
            have hq2 : ¬ (500 : Int) < p := by omega
            have ln := HS.out.n.n
            have le := HS.out.n.e
            have l0 := HS.out.n.x0
            have l1 := HS.out.n.x1
            have l2 := HS.out.n.x2
            have l3 := HS.out.n.x3
            have l4 := HS.out.n.x4
            have l5 := HS.out.n.x5
            have l6 := HS.out.n.x6
            have l7 := HS.out.n.x7
            go_wp2_with fail
            refine (HRI.out _).mono ?_
            rintro e w4 ⟨rfl, hb4⟩
            replace HS := hide (HS.out.below hb4)
            clear hb4
            clear ln le l0 l1 l2 l3 l4 l5 l6 l7
            have HR : Hid (R = true) := by unfold Hid; rw [HD.out _ (decide_eq_true hp1), decide_eq_true hp2, decide_eq_true hl5]; rfl
            have hl6 : (l : Int) ≤ 511 := by omega
            have HB := hide HS.out.bel
            clear HS
            go_wp2
            go_ret
            exact ⟨ret_bl HR.out.symm, HB.out⟩
          · have ln := HS.out.n.n
            have le := HS.out.n.e
            have l0 := HS.out.n.x0
            have l1 := HS.out.n.x1
            have l2 := HS.out.n.x2
            have l3 := HS.out.n.x3
            have l4 := HS.out.n.x4
            have l5 := HS.out.n.x5
            have l6 := HS.out.n.x6
            have l7 := HS.out.n.x7
            go_wp2_with fail
            refine (HBG.out _).mono ?_
            rintro e w2 ⟨v2, rfl, hv2, hb2⟩
            replace HS := hide (HS.out.below hb2)
            clear hb2
            go_wp2_with fail
            refine (HLN.out _ _ hv2).mono ?_
            rintro e w3 ⟨rfl, hw⟩
            subst w3
            clear hv2
            clear ln le l0 l1 l2 l3 l4 l5 l6 l7
            have hq1 : ¬ p < 1 := by omega
            have hq2 : ¬ (500 : Int) < p := by omega
            have ln := HS.out.n.n
            have le := HS.out.n.e
            have l0 := HS.out.n.x0
            have l1 := HS.out.n.x1
            have l2 := HS.out.n.x2
            have l3 := HS.out.n.x3
            have l4 := HS.out.n.x4
            have l5 := HS.out.n.x5
            have l6 := HS.out.n.x6
            have l7 := HS.out.n.x7
            go_wp2_with fail
            refine (HRI.out _).mono ?_
            rintro e w4 ⟨rfl, hb4⟩
            replace HS := hide (HS.out.below hb4)
            clear hb4
            clear ln le l0 l1 l2 l3 l4 l5 l6 l7
            have HR : Hid (R = decide (p < (l : Int))) := by unfold Hid; rw [HD.out _ (decide_eq_true hp1), decide_eq_true hp2, decide_eq_true hl5]; rfl
            have hl6 : (l : Int) ≤ 511 := by omega
            have HB := hide HS.out.bel
            clear HS
            go_wp2
            go_ret
            exact ⟨ret_bl HR.out.symm, HB.out⟩
        · have ln := HS.out.n.n
          have le := HS.out.n.e
          have l0 := HS.out.n.x0
          have l1 := HS.out.n.x1
          have l2 := HS.out.n.x2
          have l3 := HS.out.n.x3
          have l4 := HS.out.n.x4
          have l5 := HS.out.n.x5
          have l6 := HS.out.n.x6
          have l7 := HS.out.n.x7
          go_wp2_with fail
          refine (HBG.out _).mono ?_
          rintro e w2 ⟨v2, rfl, hv2, hb2⟩
          replace HS := hide (HS.out.below hb2)
          clear hb2
          go_wp2_with fail
          refine (HLN.out _ _ hv2).mono ?_
          rintro e w3 ⟨rfl, hw⟩
          subst w3
          clear hv2
          clear ln le l0 l1 l2 l3 l4 l5 l6 l7
          have hq1 : ¬ p < 1 := by omega
          have hq2 : ¬ (500 : Int) < p := by omega
          have ln := HS.out.n.n
          have le := HS.out.n.e
          have l0 := HS.out.n.x0
          have l1 := HS.out.n.x1
          have l2 := HS.out.n.x2
          have l3 := HS.out.n.x3
          have l4 := HS.out.n.x4
          have l5 := HS.out.n.x5
          have l6 := HS.out.n.x6
          have l7 := HS.out.n.x7
          go_wp2_with fail
          refine (HRI.out _).mono ?_
          rintro e w4 ⟨rfl, hb4⟩
          replace HS := hide (HS.out.below hb4)
          clear hb4
          clear ln le l0 l1 l2 l3 l4 l5 l6 l7
          have HR : Hid (R = false) := by unfold Hid; rw [HD.out _ (decide_eq_true hp1), decide_eq_true hp2, decide_eq_false hl5]; rfl
          have hl6 : ¬ (l : Int) ≤ 511 := by omega
          have HB := hide HS.out.bel
          clear HS
          go_wp2
          go_ret
          exact ⟨ret_bl HR.out.symm, HB.out⟩
    · have ln := HS.out.n.n
      have le := HS.out.n.e
      have l0 := HS.out.n.x0
      have l1 := HS.out.n.x1
      have l2 := HS.out.n.x2
      have l3 := HS.out.n.x3
      have l4 := HS.out.n.x4
      have l5 := HS.out.n.x5
      have l6 := HS.out.n.x6
      have l7 := HS.out.n.x7
      go_wp2_with fail
      refine (HBG.out _).mono ?_
      rintro e w2 ⟨v2, rfl, hv2, hb2⟩
      replace HS := hide (HS.out.below hb2)
      clear hb2
      go_wp2_with fail
      refine (HLN.out _ _ hv2).mono ?_
      rintro e w3 ⟨rfl, hw⟩
      subst w3
      clear hv2
      clear ln le l0 l1 l2 l3 l4 l5 l6 l7
      have HR : Hid (R = false) := by unfold Hid; rw [HD.out _ (decide_eq_true (by omega)), decide_eq_false (show ¬ p ≤ 500 by omega)]; rfl
      have hq1 : ¬ p < 1 := by omega
      have hq2 : (500 : Int) < p := by omega
      have HB := hide HS.out.bel
      clear HS
      go_wp2
      go_ret
      exact ⟨ret_bl HR.out.symm, HB.out⟩
  · have ln := HS.out.n.n
    have le := HS.out.n.e
    have l0 := HS.out.n.x0
    have l1 := HS.out.n.x1
    have l2 := HS.out.n.x2
    have l3 := HS.out.n.x3
    have l4 := HS.out.n.x4
    have l5 := HS.out.n.x5
    have l6 := HS.out.n.x6
    have l7 := HS.out.n.x7
    go_wp2_with fail
    refine (HBG.out _).mono ?_
    rintro e w2 ⟨v2, rfl, hv2, hb2⟩
    replace HS := hide (HS.out.below hb2)
    clear hb2
    go_wp2_with fail
    refine (HLN.out _ _ hv2).mono ?_
    rintro e w3 ⟨rfl, hw⟩
    subst w3
    clear hv2
    clear ln le l0 l1 l2 l3 l4 l5 l6 l7
    have HR : Hid (R = false) := by unfold Hid; rw [HD.out _ (decide_eq_false (by omega))]; rfl
    have hq1 : p < 1 := by omega
    have HB := hide HS.out.bel
    clear HS
    go_wp2
    go_ret
    exact ⟨ret_bl HR.out.symm, HB.out⟩

/-- A closure that pack.precise makes. -/
def precV (q : Nat) : Value := .func (.func 49) #[] #[.pointer (some ⟨q, 0, none⟩)]
structure CapP (q : Nat) (p : Int) (W : World) : Prop where
  c : W.cell? ⟨q, 0, none⟩ = some (.int .i64 p)
  lt : q < W.heap.size
theorem CapP.below {q : Nat} {p : Int} {W W' : World} (h : CapP q p W) (hb : Below W.heap.size W W') : CapP q p W' :=
  ⟨(hb.cell (p := ⟨q, 0, none⟩) h.lt).trans h.c, Nat.lt_of_lt_of_le h.lt hb.size⟩
def SlotIs.prec (p : Int) : SlotIs := ⟨fun v w => ∃ q, v = precV q ∧ CapP q p w, fun v w w' hb ⟨q, h1, h2⟩ => ⟨q, h1, h2.below hb⟩⟩
theorem precise_any (p : Int) (w : World) : Calls Tryz.prog 20 #[.int .i64 p] w fun e w' => e = .returned (precV w.heap.size) ∧ CapP w.heap.size p w' ∧ Below w.heap.size w w' := by
  have HC := hide (show CapP w.heap.size p (w.alloc (.cells #[.int .i64 p] 3)) ∧ Below w.heap.size w (w.alloc (.cells #[.int .i64 p] 3)) from ⟨⟨by simp [go_sem], by simp⟩, below_allocs _ _⟩)
  go_enter Tryz.func20, Tryz.ntmps20
  go_wp2
  go_ret
  exact ⟨rfl, HC.out.1, HC.out.2⟩
theorem precC_any (q : Nat) (p t : Int) (hp : -10000000 ≤ p ∧ p ≤ 10000000) (ht : -10000000 ≤ t ∧ t ≤ 10000000) (w : World) (hc : CapP q p w) : Calls Tryz.prog 49 (#[.int .i64 t] ++ #[.pointer (some ⟨q, 0, none⟩)]) w fun e w' => e = .returned (.int .i64 (t - p + 1)) ∧ Below w.heap.size w w' := by
  have h0 := hc.c
  have h1 := hc.lt
  have hw1 : IntKind.i64.wrap (t - p) = t - p := by rw [IntKind.wrap_i64]; omega
  have hw2 : IntKind.i64.wrap (t - p + 1) = t - p + 1 := by rw [IntKind.wrap_i64]; omega
  clear hc hp ht
  show Calls Tryz.prog 49 #[.int .i64 t, .pointer (some ⟨q, 0, none⟩)] w _
  go_enter Tryz.func49, Tryz.ntmps49
  go_wp2
  go_ret
  exact ⟨rfl, Below.refl _ _⟩
structure CapK (q : Nat) (k : Nat → Int) (W : World) : Prop where
  c : ∀ i, i < 5 → W.cell? ⟨q, i, none⟩ = some (.int .i64 (k i))
  lt : q < W.heap.size
theorem CapK.below {q : Nat} {k : Nat → Int} {W W' : World} (h : CapK q k W) (hb : Below W.heap.size W W') : CapK q k W' :=
  ⟨fun i hi => (hb.cell (p := ⟨q, i, none⟩) h.lt).trans (h.c i hi), Nat.lt_of_lt_of_le h.lt hb.size⟩
theorem CapK.under {q : Nat} {k : Nat → Int} {W W' : World} (h : CapK q k W) {C : Nat} (hb : Below C W W') (hc : q < C) : CapK q k W' :=
  ⟨fun i hi => (hb.cell (p := ⟨q, i, none⟩) hc).trans (h.c i hi), Nat.lt_of_lt_of_le h.lt hb.size⟩
theorem rndC_any (q : Nat) (k : Nat → Int) (t : Int) (hp : -10000000 ≤ k 1 ∧ k 1 ≤ 10000000) (ht : -10000000 ≤ k 3 ∧ k 3 ≤ 10000000) (w : World) (hc : CapK q k w) : Calls Tryz.prog 23 (#[.int .i64 t] ++ #[.pointer (some ⟨q, 0, none⟩)]) w fun e w' => e = .returned (.int .i64 (k 3 - k 1 + 1)) ∧ Below w.heap.size w w' := by
  have h0 := hc.c 3 (by decide)
  have h2 := hc.c 1 (by decide)
  have h1 := hc.lt
  have hw1 : IntKind.i64.wrap (k 3 - k 1) = k 3 - k 1 := by rw [IntKind.wrap_i64]; omega
  have hw2 : IntKind.i64.wrap (k 3 - k 1 + 1) = k 3 - k 1 + 1 := by rw [IntKind.wrap_i64]; omega
  clear hc hp ht
  show Calls Tryz.prog 23 #[.int .i64 t, .pointer (some ⟨q, 0, none⟩)] w _
  go_enter Tryz.func23, Tryz.ntmps23
  go_wp2
  go_ret
  exact ⟨rfl, Below.refl _ _⟩
structure PoSt (neg : Bool) (z : Int) (s : Nat) (w W : World) : Prop where
  n : NB W (w.heap.size) (neg) (z) (s)
  r : NB W (w.heap.size + 1) (false) (0) (0)
  fr : ∀ i, W.frozen? ⟨w.heap.size + 1, i, none⟩ = false
  lt : w.heap.size + 1 < W.heap.size
  bel : Below w.heap.size w W
theorem PoSt.under {neg : Bool} {z : Int} {s : Nat} {w W W' : World} (h : PoSt neg z s w W) {C : Nat} (hb : Below C W W') (hc : w.heap.size + 1 < C) : PoSt neg z s w W' :=
  ⟨h.n.under hb (show w.heap.size < C by omega), h.r.under hb (show w.heap.size + 1 < C by omega), fun i => (hb.frozen (p := ⟨w.heap.size + 1, i, none⟩) (show w.heap.size + 1 < C by omega)).trans (h.fr i), Nat.lt_of_lt_of_le h.lt hb.size, h.bel.trans (hb.mono (by omega))⟩
theorem PoSt.below {neg : Bool} {z : Int} {s : Nat} {w W W' : World} (h : PoSt neg z s w W) (hb : Below W.heap.size W W') : PoSt neg z s w W' := h.under hb h.lt
theorem poSt_start (neg : Bool) (z : Int) (s : Nat) (w : World) : PoSt neg z s w ((w.alloc (.cells #[.bool (neg), .int .i64 (z), .int .u64 (dgl (s) 0 : Nat), .int .u64 (dgl (s) 1 : Nat), .int .u64 (dgl (s) 2 : Nat), .int .u64 (dgl (s) 3 : Nat), .int .u64 (dgl (s) 4 : Nat), .int .u64 (dgl (s) 5 : Nat), .int .u64 (dgl (s) 6 : Nat), .int .u64 (dgl (s) 7 : Nat)] 27)).alloc (.cells #[.bool false, .int .i64 0, .int .u64 0, .int .u64 0, .int .u64 0, .int .u64 0, .int .u64 0, .int .u64 0, .int .u64 0, .int .u64 0] 27)) := by
  have h1 := nb_zero (w.alloc (.cells #[.bool (neg), .int .i64 (z), .int .u64 (dgl (s) 0 : Nat), .int .u64 (dgl (s) 1 : Nat), .int .u64 (dgl (s) 2 : Nat), .int .u64 (dgl (s) 3 : Nat), .int .u64 (dgl (s) 4 : Nat), .int .u64 (dgl (s) 5 : Nat), .int .u64 (dgl (s) 6 : Nat), .int .u64 (dgl (s) 7 : Nat)] 27)) 27
  rw [World.size_alloc] at h1
  exact ⟨(nb_new w neg z s 27).below (below_allocs _ _), h1, fun i => by simp [go_sem], by simp, below_trans (below_allocs _ _) (below_allocs _ _)⟩
set_option maxHeartbeats 1000000 in
theorem beyond_I (f m : Int) (neg : Bool) (a : Nat)
    (HGR : Hid (∀ w, Calls Tryz.prog 50 #[.int .i64 m, .bool neg, .bool false, .int .i64 3] w fun e w' => e = .returned (.bool true) ∧ Below w.heap.size w w'))
    (HFM : Hid (∀ w, FmtG w → Calls Tryz.prog 51 #[.int .i64 f, .bool neg] w fun e w' => e = .returned (.agg #[.int .u64 (dgl (a) 1 : Nat), .int .u64 (dgl (a) 0 : Nat)]) ∧ Below w.heap.size w w')) (w : World) (hg : FmtG w) :
    Calls Tryz.prog 22 #[.int .i64 f, .int .i64 m, .bool neg] w fun e w' => e = .returned (.agg #[.int .u64 (dgl (a) 1 : Nat), .int .u64 (dgl (a) 0 : Nat)]) ∧ Below w.heap.size w w' := by
  have HS := hide (noSt_start w hg)
  clear hg
  go_enter Tryz.func22, Tryz.ntmps22
  go_upto_region 1 with fail
  refine wp_gen (fun W => NoSt w W) HS.out ?_
  clear HS
  rintro W1 h1
  have HS := hide h1
  clear h1
  go_wp2_with fail
  refine (HGR.out _).mono ?_
  rintro e w1 ⟨rfl, hb1⟩
  replace HS := hide (HS.out.below hb1)
  clear hb1
  go_wp2_with fail
  refine (HFM.out _ HS.out.g).mono ?_
  rintro e w2 ⟨rfl, hb2⟩
  replace HS := hide (HS.out.below hb2)
  clear hb2
  have rh := HS.out.r.h
  have rl := HS.out.r.l
  have hrf := HS.out.fr
  have hlt := HS.out.lt
  have HB := hide HS.out.bel
  clear HS
  go_wp2
  exact bodyPost_ret (v := .agg #[.int .u64 (dgl (a) 1 : Nat), .int .u64 (dgl (a) 0 : Nat)]) (by simp [results, Tryz.results22, go_sem, hlt, rh, rl]) rfl ⟨rfl, (HB.out.setCell (p := ⟨w.heap.size, 0, none⟩) (Nat.le_refl _) _).setCell (p := ⟨w.heap.size, 1, none⟩) (Nat.le_refl _) _⟩

set_option maxHeartbeats 1000000 in
theorem beyond_M (f m : Int) (neg : Bool) (a : Nat)
    (HGR : Hid (∀ w, Calls Tryz.prog 50 #[.int .i64 m, .bool neg, .bool false, .int .i64 3] w fun e w' => e = .returned (.bool false) ∧ Below w.heap.size w w'))
    (HFM : Hid (∀ w, FmtG w → Calls Tryz.prog 52 #[.int .i64 f, .bool neg] w fun e w' => e = .returned (.agg #[.int .u64 (dgl (a) 1 : Nat), .int .u64 (dgl (a) 0 : Nat)]) ∧ Below w.heap.size w w')) (w : World) (hg : FmtG w) :
    Calls Tryz.prog 22 #[.int .i64 f, .int .i64 m, .bool neg] w fun e w' => e = .returned (.agg #[.int .u64 (dgl (a) 1 : Nat), .int .u64 (dgl (a) 0 : Nat)]) ∧ Below w.heap.size w w' := by
  have HS := hide (noSt_start w hg)
  clear hg
  go_enter Tryz.func22, Tryz.ntmps22
  go_upto_region 1 with fail
  refine wp_gen (fun W => NoSt w W) HS.out ?_
  clear HS
  rintro W1 h1
  have HS := hide h1
  clear h1
  go_wp2_with fail
  refine (HGR.out _).mono ?_
  rintro e w1 ⟨rfl, hb1⟩
  replace HS := hide (HS.out.below hb1)
  clear hb1
  go_wp2_with fail
  refine (HFM.out _ HS.out.g).mono ?_
  rintro e w2 ⟨rfl, hb2⟩
  replace HS := hide (HS.out.below hb2)
  clear hb2
  have rh := HS.out.r.h
  have rl := HS.out.r.l
  have hrf := HS.out.fr
  have hlt := HS.out.lt
  have HB := hide HS.out.bel
  clear HS
  go_wp2
  exact bodyPost_ret (v := .agg #[.int .u64 (dgl (a) 1 : Nat), .int .u64 (dgl (a) 0 : Nat)]) (by simp [results, Tryz.results22, go_sem, hlt, rh, rl]) rfl ⟨rfl, (HB.out.setCell (p := ⟨w.heap.size, 0, none⟩) (Nat.le_refl _) _).setCell (p := ⟨w.heap.size, 1, none⟩) (Nat.le_refl _) _⟩

end Go.Proofs.YtpcjdllijkjdkaaGreatDoor

/- Contracts: pack.cut, Digits, Round, over what their parts tell. -/
set_option linter.unusedVariables false
set_option linter.unusedSimpArgs false
set_option maxRecDepth 8000
namespace Go.Proofs.YtpcjdllijkjdkaaGreatDoor
open Go.RowKit Plain

set_option maxHeartbeats 4000000 in
theorem pcut_walk (z tp la by_ m : Int) (neg more off : Bool) (s q fid : Nat) (caps : Array Value) (C0 : World → Prop) (hC0s : ∀ W W', C0 W → Below W.heap.size W W' → C0 W') (hent : ∀ args w, (callFunc fid args).run Tryz.prog w = .ok (.enter fid args) w)
    (HTP : Hid (∀ w, Calls Tryz.prog 21 #[.agg #[.bool (neg), .int .i64 (z), .int .u64 (dgl (s) 0 : Nat), .int .u64 (dgl (s) 1 : Nat), .int .u64 (dgl (s) 2 : Nat), .int .u64 (dgl (s) 3 : Nat), .int .u64 (dgl (s) 4 : Nat), .int .u64 (dgl (s) 5 : Nat), .int .u64 (dgl (s) 6 : Nat), .int .u64 (dgl (s) 7 : Nat)]] w fun e w' => e = .returned (.int .i64 tp) ∧ Below w.heap.size w w'))
    (HCL : Hid (∀ w, C0 w → Calls Tryz.prog fid (#[.int .i64 tp] ++ caps) w fun e w' => e = .returned (.int .i64 la) ∧ Below w.heap.size w w'))
    (hz : -4000000 ≤ z ∧ z ≤ 4000000) (hla : -10000000 ≤ la ∧ la ≤ 10000000) (HBY : Hid (max (la - z) 0 = by_))
    (HCU : Hid (∀ w, Calls Tryz.prog 48 #[.agg #[.int .u64 (dgl (s) 0 : Nat), .int .u64 (dgl (s) 1 : Nat), .int .u64 (dgl (s) 2 : Nat), .int .u64 (dgl (s) 3 : Nat), .int .u64 (dgl (s) 4 : Nat), .int .u64 (dgl (s) 5 : Nat), .int .u64 (dgl (s) 6 : Nat), .int .u64 (dgl (s) 7 : Nat)], .int .i64 by_, .bool more, .int .i64 m, .bool neg] w fun e w' => e = .returned (.tuple #[.agg #[.int .u64 (dgl (q) 0 : Nat), .int .u64 (dgl (q) 1 : Nat), .int .u64 (dgl (q) 2 : Nat), .int .u64 (dgl (q) 3 : Nat), .int .u64 (dgl (q) 4 : Nat), .int .u64 (dgl (q) 5 : Nat), .int .u64 (dgl (q) 6 : Nat), .int .u64 (dgl (q) 7 : Nat)], .bool off]) ∧ Below w.heap.size w w')) (w : World) (hc0 : C0 w) :
    Calls Tryz.prog 19 #[.int .i64 m, .agg #[.bool (neg), .int .i64 (z), .int .u64 (dgl (s) 0 : Nat), .int .u64 (dgl (s) 1 : Nat), .int .u64 (dgl (s) 2 : Nat), .int .u64 (dgl (s) 3 : Nat), .int .u64 (dgl (s) 4 : Nat), .int .u64 (dgl (s) 5 : Nat), .int .u64 (dgl (s) 6 : Nat), .int .u64 (dgl (s) 7 : Nat)], .bool more, .func (.func fid) #[] caps] w fun e w' => e = .returned (.tuple #[.agg #[.bool (neg), .int .i64 (z + by_), .int .u64 (dgl (q) 0 : Nat), .int .u64 (dgl (q) 1 : Nat), .int .u64 (dgl (q) 2 : Nat), .int .u64 (dgl (q) 3 : Nat), .int .u64 (dgl (q) 4 : Nat), .int .u64 (dgl (q) 5 : Nat), .int .u64 (dgl (q) 6 : Nat), .int .u64 (dgl (q) 7 : Nat)], .bool off]) ∧ Below w.heap.size w w' := by
  have HS := hide (show PoSt neg z s w _ ∧ C0 _ from ⟨poSt_start neg z s w, hC0s _ _ (hC0s _ _ hc0 (below_allocs _ (.cells #[.bool (neg), .int .i64 (z), .int .u64 (dgl (s) 0 : Nat), .int .u64 (dgl (s) 1 : Nat), .int .u64 (dgl (s) 2 : Nat), .int .u64 (dgl (s) 3 : Nat), .int .u64 (dgl (s) 4 : Nat), .int .u64 (dgl (s) 5 : Nat), .int .u64 (dgl (s) 6 : Nat), .int .u64 (dgl (s) 7 : Nat)] 27))) (below_allocs _ (.cells #[.bool false, .int .i64 0, .int .u64 0, .int .u64 0, .int .u64 0, .int .u64 0, .int .u64 0, .int .u64 0, .int .u64 0, .int .u64 0] 27))⟩)
  clear hc0
  have hby : -20000000 ≤ by_ ∧ by_ ≤ 20000000 := by have := HBY.out; omega
  go_enter Tryz.func19, Tryz.ntmps19
  go_upto_region 1 with fail
  refine wp_gen (fun W => PoSt neg z s w W ∧ C0 W) HS.out ?_
  clear HS
  rintro W1 h1
  refine wp_region_grow 9 [(13, .val (.func (.func fid) #[] caps)), (14, .val (.agg #[.bool (neg), .int .i64 (z), .int .u64 (dgl (s) 0 : Nat), .int .u64 (dgl (s) 1 : Nat), .int .u64 (dgl (s) 2 : Nat), .int .u64 (dgl (s) 3 : Nat), .int .u64 (dgl (s) 4 : Nat), .int .u64 (dgl (s) 5 : Nat), .int .u64 (dgl (s) 6 : Nat), .int .u64 (dgl (s) 7 : Nat)])), (15, .val (.int .i64 tp)), (16, .val (.int .i64 la)), (17, .val (.pointer (some ⟨w.heap.size, 1, none⟩))), (18, .val (.int .i64 z)), (19, .val (.int .i64 (la - z))), (20, .val (.int .i64 by_)), (10, .val (.int .i64 by_))]
    (fun W => PoSt neg z s w W ∧ C0 W) mixedOk (by kernel_rfl) (by kernel_rfl) (⟨h1.1.below (Below.refl _ _).drew, hC0s _ _ h1.2 (Below.refl _ _).drew⟩) (fun W W' h hb => ⟨h.1.below hb, hC0s _ _ h.2 hb⟩) ?_ ?_
  · refine gSt (gStep_run rfl (gRun_move 3 13 (.inl rfl) rfl (by decide +kernel) (fun v w h => h))) ?_
    refine gSt (gStep_run rfl ?_) ?_
    · intro ρ W hC hc hf hL
      have e5 : ρ (.tmp 5) = .pointer (some ⟨w.heap.size, 0, none⟩) := hL 5 (by decide +kernel)
      have ln := hC.1.n.n
      have le := hC.1.n.e
      have l0 := hC.1.n.x0
      have l1 := hC.1.n.x1
      have l2 := hC.1.n.x2
      have l3 := hC.1.n.x3
      have l4 := hC.1.n.x4
      have l5 := hC.1.n.x5
      have l6 := hC.1.n.x6
      have l7 := hC.1.n.x7
      simp [go_sem, hc, hf, e5, ln, le, l0, l1, l2, l3, l4, l5, l6, l7]
      exact ⟨Below.refl _ _, rfl⟩
    refine gSt (gStep_run rfl ?_) ?_
    · intro ρ W hC hc hf hL
      have e14 : ρ (.tmp 14) = .agg #[.bool (neg), .int .i64 (z), .int .u64 (dgl (s) 0 : Nat), .int .u64 (dgl (s) 1 : Nat), .int .u64 (dgl (s) 2 : Nat), .int .u64 (dgl (s) 3 : Nat), .int .u64 (dgl (s) 4 : Nat), .int .u64 (dgl (s) 5 : Nat), .int .u64 (dgl (s) 6 : Nat), .int .u64 (dgl (s) 7 : Nat)] := hL 14 (by decide +kernel)
      simp [go_sem, hc, hf, e14]
      refine (HTP.out W).mono ?_
      rintro e w' ⟨rfl, hb⟩
      exact ⟨_, rfl, by first | exact hb | (subst hb; exact Below.refl _ _), rfl⟩
    refine gSt (gStep_run rfl ?_) ?_
    · intro ρ W hC hc hf hL
      have e13 : ρ (.tmp 13) = .func (.func fid) #[] caps := hL 13 (by decide +kernel)
      have e15 : ρ (.tmp 15) = .int .i64 tp := hL 15 (by decide +kernel)
      have he := hent
      simp [go_sem, hc, hf, e13, e15, he]
      refine (HCL.out W hC.2).mono ?_
      rintro e w' ⟨rfl, hb⟩
      exact ⟨_, rfl, by first | exact hb | (subst hb; exact Below.refl _ _), rfl⟩
    refine gSt (gStep_run rfl ?_) ?_
    · intro ρ W hC hc hf hL
      have e5 : ρ (.tmp 5) = .pointer (some ⟨w.heap.size, 0, none⟩) := hL 5 (by decide +kernel)
      simp [go_sem, hc, hf, e5]
      exact ⟨Below.refl _ _, rfl⟩
    refine gSt (gStep_run rfl ?_) ?_
    · intro ρ W hC hc hf hL
      have e17 : ρ (.tmp 17) = .pointer (some ⟨w.heap.size, 1, none⟩) := hL 17 (by decide +kernel)
      have le := hC.1.n.e
      simp [go_sem, hc, hf, e17, le]
      exact ⟨Below.refl _ _, rfl⟩
    refine gSt (gStep_run rfl ?_) ?_
    · intro ρ W hC hc hf hL
      have e16 : ρ (.tmp 16) = .int .i64 la := hL 16 (by decide +kernel)
      have e18 : ρ (.tmp 18) = .int .i64 z := hL 18 (by decide +kernel)
      have hw : IntKind.i64.wrap (la - z) = la - z := by rw [IntKind.wrap_i64]; omega
      simp [go_sem, hc, hf, e16, e18, hw]
      exact ⟨Below.refl _ _, rfl⟩
    refine gSt (gStep_run rfl ?_) ?_
    · intro ρ W hC hc hf hL
      have e19 : ρ (.tmp 19) = .int .i64 (la - z) := hL 19 (by decide +kernel)
      have hb := HBY.out
      simp [go_sem, hc, hf, e19, hb]
      exact ⟨Below.refl _ _, rfl⟩
    refine gSt (gStep_run rfl (gRun_move 20 10 (.inr rfl) rfl (by decide +kernel) (fun v w h => h))) ?_
    exact gSt0
  · intro W hC
    refine gFi 13 rfl ?_
    rintro _ rfl
    refine gFi 14 rfl ?_
    rintro _ rfl
    refine gFi 15 rfl ?_
    rintro _ rfl
    refine gFi 16 rfl ?_
    rintro _ rfl
    refine gFi 17 rfl ?_
    rintro _ rfl
    refine gFi 18 rfl ?_
    rintro _ rfl
    refine gFi 19 rfl ?_
    rintro _ rfl
    refine gFi 20 rfl ?_
    rintro _ rfl
    refine gFi 10 rfl ?_
    rintro _ rfl
    refine gFi0 ?_
    simp only [List.drop_succ_cons, List.drop_zero, Act.put, List.setIfInBounds_toArray, List.set_cons_succ, List.set_cons_zero]
    have HS := hide hC.1
    clear hC h1
    have ln := HS.out.n.n
    have le := HS.out.n.e
    have l0 := HS.out.n.x0
    have l1 := HS.out.n.x1
    have l2 := HS.out.n.x2
    have l3 := HS.out.n.x3
    have l4 := HS.out.n.x4
    have l5 := HS.out.n.x5
    have l6 := HS.out.n.x6
    have l7 := HS.out.n.x7
    go_wp2_with fail
    refine (HCU.out _).mono ?_
    rintro e w2 ⟨rfl, hb2⟩
    replace HS := hide (HS.out.below hb2)
    clear hb2 ln le l0 l1 l2 l3 l4 l5 l6 l7
    go_upto_region 3 with fail
    refine wp_gen (fun W => PoSt neg z s w W ∧ LiesF W w2.heap.size (dgl q)) ⟨HS.out.below (below_allocs _ _), liesF_new _ _ _⟩ ?_
    clear HS
    generalize w2.heap.size = p11 at *
    rintro W3 ⟨g1, g2⟩
    have HS := hide g1
    have y := g2.1
    clear g1 g2
    have ln := HS.out.n.n
    have le := HS.out.n.e
    have hw : IntKind.i64.wrap (z + by_) = z + by_ := by rw [IntKind.wrap_i64]; omega
    have rn := HS.out.r.n
    have re := HS.out.r.e
    have r0 := HS.out.r.x0
    have r1 := HS.out.r.x1
    have r2 := HS.out.r.x2
    have r3 := HS.out.r.x3
    have r4 := HS.out.r.x4
    have r5 := HS.out.r.x5
    have r6 := HS.out.r.x6
    have r7 := HS.out.r.x7
    have hrf := HS.out.fr
    have hlt := HS.out.lt
    have HB := hide HS.out.bel
    clear HS
    go_wp2
    exact bodyPost_ret (v := .tuple #[.agg #[.bool (neg), .int .i64 (z + by_), .int .u64 (dgl (q) 0 : Nat), .int .u64 (dgl (q) 1 : Nat), .int .u64 (dgl (q) 2 : Nat), .int .u64 (dgl (q) 3 : Nat), .int .u64 (dgl (q) 4 : Nat), .int .u64 (dgl (q) 5 : Nat), .int .u64 (dgl (q) 6 : Nat), .int .u64 (dgl (q) 7 : Nat)], .bool off]) (by simp [results, Tryz.results19, go_sem, hlt, rn, re, r0, r1, r2, r3, r4, r5, r6, r7]) rfl ⟨rfl, ((((((((((HB.out.setCell (p := ⟨w.heap.size + 1, 0, none⟩) (Nat.le_succ _) _).setCell (p := ⟨w.heap.size + 1, 1, none⟩) (Nat.le_succ _) _).setCell (p := ⟨w.heap.size + 1, 2, none⟩) (Nat.le_succ _) _).setCell (p := ⟨w.heap.size + 1, 3, none⟩) (Nat.le_succ _) _).setCell (p := ⟨w.heap.size + 1, 4, none⟩) (Nat.le_succ _) _).setCell (p := ⟨w.heap.size + 1, 5, none⟩) (Nat.le_succ _) _).setCell (p := ⟨w.heap.size + 1, 6, none⟩) (Nat.le_succ _) _).setCell (p := ⟨w.heap.size + 1, 7, none⟩) (Nat.le_succ _) _).setCell (p := ⟨w.heap.size + 1, 8, none⟩) (Nat.le_succ _) _).setCell (p := ⟨w.heap.size + 1, 9, none⟩) (Nat.le_succ _) _)⟩

end Go.Proofs.YtpcjdllijkjdkaaGreatDoor

