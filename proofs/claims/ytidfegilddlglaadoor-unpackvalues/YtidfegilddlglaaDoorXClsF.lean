/- Contracts and laws: ClsF. -/
import Derived.Test.YtidfegilddlglaaDoorXClsE
import Derived.Deep.DeepCutAuto
/- Contracts: radicandref06.Fraction. -/
set_option linter.unusedVariables false
set_option linter.unusedSimpArgs false
set_option maxRecDepth 8000
namespace Go.Proofs.YtidfegilddlglaaDoor
open Go.RowKit Plain

theorem dgl_zero_of_lt {x : Nat} (j : Nat) (h : x < 18446744073709551616 ^ j) : dgl x j = 0 := by unfold dgl; rw [Nat.div_eq_of_lt h]
theorem frac_low (n r j : Nat) (hn : n < 64) (hr : r < 2 ^ n) (hj : j ≠ 0) : dgl (r + 2 ^ n) j = dgl r j := by
  have h1 : 2 ^ n ≤ 2 ^ 63 := Nat.pow_le_pow_right (by decide) (by omega)
  have h2 : 18446744073709551616 ^ 1 ≤ 18446744073709551616 ^ j := Nat.pow_le_pow_right (by decide) (by omega)
  rw [dgl_zero_of_lt j (by omega), dgl_zero_of_lt j (by omega)]
theorem frac_low0 (n r : Nat) (hn : n < 64) (hr : r < 2 ^ n) : dgl (r + 2 ^ n) 0 = dgl r 0 + 2 ^ n := by
  have h1 : 2 ^ n ≤ 2 ^ 63 := Nat.pow_le_pow_right (by decide) (by omega)
  rw [dgl0, dgl0, Nat.mod_eq_of_lt (by omega), Nat.mod_eq_of_lt (by omega)]
theorem frac_e (n : Nat) (hn : ¬ n < 64) : 2 ^ n = 18446744073709551616 * 2 ^ (n - 64) := by
  rw [show (18446744073709551616 : Nat) = 2 ^ 64 by decide +kernel, ← Nat.pow_add, show 64 + (n - 64) = n by omega]
theorem frac_high (n r j : Nat) (hn : ¬ n < 64) (hn2 : n < 128) (hr : r < 2 ^ n) (hj : j ≠ 1) : dgl (r + 2 ^ n) j = dgl r j := by
  rcases Nat.eq_zero_or_pos j with h0 | h0
  · rw [h0, dgl0, dgl0, frac_e n hn, Nat.add_mul_mod_self_left]
  · have h1 : 2 ^ n ≤ 2 ^ 127 := Nat.pow_le_pow_right (by decide) (by omega)
    have h2 : 18446744073709551616 ^ 2 ≤ 18446744073709551616 ^ j := Nat.pow_le_pow_right (by decide) (by omega)
    rw [dgl_zero_of_lt j (by omega), dgl_zero_of_lt j (by omega)]
theorem frac_high1 (n r : Nat) (hn : ¬ n < 64) (hn2 : n < 128) (hr : r < 2 ^ n) : dgl (r + 2 ^ n) 1 = dgl r 1 + 2 ^ (n - 64) := by
  have h1 : 2 ^ (n - 64) ≤ 2 ^ 63 := Nat.pow_le_pow_right (by decide) (by omega)
  have h3 : r / 18446744073709551616 < 2 ^ (n - 64) := by
    rw [Nat.div_lt_iff_lt_mul (by decide), Nat.mul_comm, ← frac_e n hn]
    exact hr
  rw [dgl1, dgl1, frac_e n hn, Nat.add_mul_div_left _ _ (by decide), Nat.mod_eq_of_lt (by omega), Nat.mod_eq_of_lt (by omega)]

structure FrSt (hi lo r : Nat) (w W : World) : Prop where
  s : FitSt hi lo w W
  lz : LiesF W (w.heap.size + 1) (fun _ => 0)
  fz : ∀ i, W.frozen? ⟨w.heap.size + 1, i, none⟩ = false
  lr : LiesF W (w.heap.size + 1 + 1) (dgl r)
  fr : ∀ i, W.frozen? ⟨w.heap.size + 1 + 1, i, none⟩ = false
theorem FrSt.below {hi lo r : Nat} {w W W' : World} (h : FrSt hi lo r w W) (hb : Below W.heap.size W W') : FrSt hi lo r w W' :=
  ⟨h.s.below hb, h.lz.below hb, fun i => (hb.frozen (p := ⟨w.heap.size + 1, i, none⟩) h.lz.2).trans (h.fz i), h.lr.below hb, fun i => (hb.frozen (p := ⟨w.heap.size + 1 + 1, i, none⟩) h.lr.2).trans (h.fr i)⟩
theorem frSt_start (hi lo : Nat) (w : World) : FrSt hi lo 0 w (((w.alloc (.cells #[.int .u64 (hi : Nat), .int .u64 (lo : Nat)] 24)).alloc (.cells #[.int .u64 0, .int .u64 0, .int .u64 0, .int .u64 0, .int .u64 0, .int .u64 0, .int .u64 0, .int .u64 0] 28)).alloc (.cells #[.int .u64 0, .int .u64 0, .int .u64 0, .int .u64 0, .int .u64 0, .int .u64 0, .int .u64 0, .int .u64 0] 28)) := by
  have l1 := (liesF_new (w.alloc (.cells #[.int .u64 (hi : Nat), .int .u64 (lo : Nat)] 24)) (fun _ => 0) 28).alloc (.cells #[.int .u64 0, .int .u64 0, .int .u64 0, .int .u64 0, .int .u64 0, .int .u64 0, .int .u64 0, .int .u64 0] 28)
  have l2 := liesF_new ((w.alloc (.cells #[.int .u64 (hi : Nat), .int .u64 (lo : Nat)] 24)).alloc (.cells #[.int .u64 0, .int .u64 0, .int .u64 0, .int .u64 0, .int .u64 0, .int .u64 0, .int .u64 0, .int .u64 0] 28)) (fun _ => 0) 28
  rw [World.size_alloc] at l1
  rw [World.size_alloc, World.size_alloc] at l2
  refine ⟨((fitSt_start hi lo w).below (below_allocs _ _)).below (below_allocs _ _), l1, fun i => by simp [go_sem], ?_, fun i => by simp [go_sem]⟩
  have e : (dgl 0) = (fun _ => 0) := by funext i; exact dgl_zero i
  rw [e]
  exact l2
theorem FrSt.set {hi lo r : Nat} {w W : World} (h : FrSt hi lo r w W) (q r' : Nat) (hq : q < 8) (he : ∀ j, j ≠ q → dgl r' j = dgl r j) : FrSt hi lo r' w (W.setCell ⟨w.heap.size + 1 + 1, q, none⟩ (.int .u64 (dgl r' q : Nat))) := by
  have hb := (Below.refl (w.heap.size + 1 + 1) W).setCell (p := ⟨w.heap.size + 1 + 1, q, none⟩) (Nat.le_refl _) (.int .u64 (dgl r' q : Nat))
  have hs := hb.size
  have h1 := h.s.lt
  refine ⟨⟨(hb.cell (p := ⟨w.heap.size, 0, none⟩) (show w.heap.size < w.heap.size + 1 + 1 by omega)).trans h.s.h, (hb.cell (p := ⟨w.heap.size, 1, none⟩) (show w.heap.size < w.heap.size + 1 + 1 by omega)).trans h.s.l, Nat.lt_of_lt_of_le h.s.lt hb.size, h.s.bel.trans (hb.mono (by omega))⟩,
    lies_box h.lz hb (by omega), fun i => (hb.frozen (p := ⟨w.heap.size + 1, i, none⟩) (show w.heap.size + 1 < w.heap.size + 1 + 1 by omega)).trans (h.fz i), ⟨fun i hi => ?_, Nat.lt_of_lt_of_le h.lr.2 hb.size⟩, fun i => by simpa [go_sem] using h.fr i⟩
  have hc := h.lr.1 q hq
  by_cases hiq : i = q
  · subst hiq
    simp [go_sem, hc]
  · have hci := h.lr.1 i hi
    have hne : ¬ q = i := fun h => hiq h.symm
    rw [he i hiq]
    simpa [go_sem, hiq, hne] using hci

set_option maxHeartbeats 1000000 in
theorem refFrac_walk (f : Int) (P hi lo : Nat) (hP : 2 ≤ P) (hP1 : P ≤ 128) (hh : hi < 18446744073709551616) (hl : lo < 18446744073709551616)
    (HP : Hid (∀ w, Calls Tryd.prog 31 #[.int .i64 f] w fun e w' => e = .returned (.int .i64 (P : Nat)) ∧ w' = w)) (w : World) :
    Calls Tryd.prog 24 #[.int .i64 f, .agg #[.int .u64 (hi : Nat), .int .u64 (lo : Nat)]] w fun e w' => e = .returned (.agg #[.int .u64 (dgl (((lo + 18446744073709551616 * hi) % 2 ^ (P - 1))) 0 : Nat), .int .u64 (dgl (((lo + 18446744073709551616 * hi) % 2 ^ (P - 1))) 1 : Nat), .int .u64 (dgl (((lo + 18446744073709551616 * hi) % 2 ^ (P - 1))) 2 : Nat), .int .u64 (dgl (((lo + 18446744073709551616 * hi) % 2 ^ (P - 1))) 3 : Nat), .int .u64 (dgl (((lo + 18446744073709551616 * hi) % 2 ^ (P - 1))) 4 : Nat), .int .u64 (dgl (((lo + 18446744073709551616 * hi) % 2 ^ (P - 1))) 5 : Nat), .int .u64 (dgl (((lo + 18446744073709551616 * hi) % 2 ^ (P - 1))) 6 : Nat), .int .u64 (dgl (((lo + 18446744073709551616 * hi) % 2 ^ (P - 1))) 7 : Nat)]) ∧ Below w.heap.size w w' := by
  have HBT := hide (fun n hn w => refBit5_any hi lo n hh hl hn (n : Int) rfl w)
  have HST := hide (frSt_start hi lo w)
  have hP' : (P : Int) ≤ 128 := by omega
  have hP2 : (2 : Int) ≤ (P : Int) := by omega
  clear hh hl
  generalize (lo + 18446744073709551616 * hi) = a at *
  go_enter Tryd.func24, Tryd.ntmps24
  go_wp2_with fail
  go_loopw [6] (fun i wr => ∃ n : Nat, n ≤ P - 1 ∧ i = .int .i64 n ∧ Hid (FrSt hi lo (a % 2 ^ n) w wr)) (fun i _ => P - 1 - (intOf i).toNat)
  case atStart => exact ⟨0, Nat.zero_le _, rfl, by rw [Nat.pow_zero, Nat.mod_one]; exact HST⟩
  case round =>
    clear HST
    obtain ⟨n, hn, rfl, hst⟩ := hrel
    by_cases hlt : n < P - 1
    · have hj : (n : Int) < (P : Int) - 1 := by omega
      have c0 := hst.out.s.h
      have c1 := hst.out.s.l
      have c2 := hst.out.s.lt
      have hnb : n < 128 := by omega
      go_wp2_with fail
      refine (HP.out _).mono ?_
      rintro e w1 ⟨rfl, hw⟩
      subst w1
      go_wp2_with fail
      refine (HBT.out n hnb _).mono ?_
      rintro e w1 ⟨rfl, hb1⟩
      have HS1 := hide (hst.out.below hb1)
      clear hb1 c0 c1 c2 hst
      have hms : a % 2 ^ (n + 1) = a % 2 ^ n + 2 ^ n * (a / 2 ^ n % 2) := by rw [Nat.pow_succ, Nat.mod_mul]
      by_cases hbit : a / 2 ^ n % 2 = 1
      · have hbb : (a / 2 ^ n % 2 == 1) = true := by rw [beq_iff_eq]; exact hbit
        rw [hbb]
        rw [hbit, Nat.mul_one] at hms
        have hrl : a % 2 ^ n < 2 ^ n := Nat.mod_lt _ (Nat.two_pow_pos _)
        have HRR := hide hms
        clear hbit hbb hms
        generalize a % 2 ^ n = r at *
        obtain ⟨r', hr'⟩ : ∃ r', r + 2 ^ n = r' := ⟨_, rfl⟩
        rw [hr'] at HRR
        by_cases h64 : n < 64
        · have HQ : Hid ((n : Int).tdiv 64 = 0) := by unfold Hid; rw [Int.tdiv_eq_ediv_of_nonneg (by omega)]; omega
          obtain ⟨e, he⟩ : ∃ e, n = e := ⟨_, rfl⟩
          have HM : Hid ((n : Int).tmod 64 = (e : Int)) := by unfold Hid; rw [Int.tmod_eq_emod_of_nonneg (by omega)]; omega
          have hp1 : 2 ^ e ≤ 2 ^ 63 := Nat.pow_le_pow_right (by decide) (by omega)
          have hpe : ((2 : Int) ^ e) = ((2 ^ e : Nat) : Int) := by rw [Int.natCast_pow]; rfl
          have HSH : Hid (IntKind.u64.wrap ((2 : Int) ^ e) = (2 : Int) ^ e) := by
            unfold Hid
            rw [hpe, IntKind.wrap_u64]
            generalize 2 ^ e = y at hp1 ⊢
            omega
          have HE6 := hide (show (e : Int) < 64 by omega)
          have HAD : Hid (IntKind.u64.wrap (((dgl r 0 : Nat) : Int) + (2 : Int) ^ e) = ((dgl r' 0 : Nat) : Int)) := by
            unfold Hid
            rw [hpe]
            have h1 := frac_low0 n r h64 hrl
            have h2 := dgl_lt (r + 2 ^ n) 0
            rw [← hr', h1, IntKind.wrap_u64]
            rw [h1] at h2
            first | rw [← he] | skip
            generalize (2 : Nat) ^ _ = y at h2 ⊢
            omega
          have HOT : Hid (∀ j, j ≠ 0 → dgl r' j = dgl r j) := fun j hj => by rw [← hr']; exact frac_low n r j h64 hrl hj
          clear hr' he hrl hp1 hpe
          go_upto_region 6 with fail
          refine wp_region_grow 11 [(17, .val (.int .i64 (n : Nat))), (18, .val (.int .i64 0)), (19, .val (.int .i64 (n : Nat))), (20, .val (.int .i64 0)), (21, .val (.pointer (some ⟨w.heap.size + 1 + 1, 0, none⟩))), (22, .val (.int .u64 (dgl r 0 : Nat))), (23, .val (.int .i64 (n : Nat))), (24, .val (.int .i64 ((e : Nat) : Int))), (25, .val (.int .u64 ((2 : Int) ^ e))), (26, .val (.int .u64 (dgl r' 0 : Nat))), (27, .val (.pointer (some ⟨w.heap.size + 1 + 1, 0, none⟩)))]
            (fun W => FrSt hi lo r w W) mixedOk (by kernel_rfl) (by kernel_rfl) (HS1.out.below (Below.refl _ _).drew) (fun W W' h hb => h.below hb) ?_ ?_
          · refine gSt (gStep_run rfl (gRun_move 6 17 (.inl rfl) rfl (by decide +kernel) (fun v w h => h))) ?_
            refine gSt (gStep_run rfl ?_) ?_
            · intro ρ W hC hc hf hL
              have e17 : ρ (.tmp 17) = .int .i64 (n : Nat) := hL 17 (by decide +kernel)
              have hl := HQ.out
              simp [go_sem, hc, hf, e17, hl]
              exact ⟨Below.refl _ _, rfl⟩
            refine gSt (gStep_run rfl (gRun_move 6 19 (.inl rfl) rfl (by decide +kernel) (fun v w h => h))) ?_
            refine gSt (gStep_run rfl ?_) ?_
            · intro ρ W hC hc hf hL
              have e19 : ρ (.tmp 19) = .int .i64 (n : Nat) := hL 19 (by decide +kernel)
              have hl := HQ.out
              simp [go_sem, hc, hf, e19, hl]
              exact ⟨Below.refl _ _, rfl⟩
            refine gSt (gStep_run rfl ?_) ?_
            · intro ρ W hC hc hf hL
              have e5 : ρ (.tmp 5) = .pointer (some ⟨w.heap.size + 1 + 1, 0, none⟩) := hL 5 (by decide +kernel)
              have e20 : ρ (.tmp 20) = .int .i64 0 := hL 20 (by decide +kernel)
              simp [go_sem, hc, hf, e5, e20]
              exact ⟨Below.refl _ _, rfl⟩
            refine gSt (gStep_run rfl ?_) ?_
            · intro ρ W hC hc hf hL
              have e21 : ρ (.tmp 21) = .pointer (some ⟨w.heap.size + 1 + 1, 0, none⟩) := hL 21 (by decide +kernel)
              have hl := hC.lr.1 0 (by decide)
              simp [go_sem, hc, hf, e21, hl]
              exact ⟨Below.refl _ _, rfl⟩
            refine gSt (gStep_run rfl (gRun_move 6 23 (.inl rfl) rfl (by decide +kernel) (fun v w h => h))) ?_
            refine gSt (gStep_run rfl ?_) ?_
            · intro ρ W hC hc hf hL
              have e23 : ρ (.tmp 23) = .int .i64 (n : Nat) := hL 23 (by decide +kernel)
              have hl := HM.out
              simp [go_sem, hc, hf, e23, hl]
              exact ⟨Below.refl _ _, rfl⟩
            refine gSt (gStep_run rfl ?_) ?_
            · intro ρ W hC hc hf hL
              have e24 : ρ (.tmp 24) = .int .i64 ((e : Nat) : Int) := hL 24 (by decide +kernel)
              have hl := HSH.out
              have h0 : (0 : Int) ≤ (e : Int) := by omega
              have h6 := HE6.out
              simp [go_sem, hc, hf, e24, hl, h0, h6]
              exact ⟨Below.refl _ _, rfl⟩
            refine gSt (gStep_run rfl ?_) ?_
            · intro ρ W hC hc hf hL
              have e22 : ρ (.tmp 22) = .int .u64 (dgl r 0 : Nat) := hL 22 (by decide +kernel)
              have e25 : ρ (.tmp 25) = .int .u64 ((2 : Int) ^ e) := hL 25 (by decide +kernel)
              have hl := HAD.out
              simp [go_sem, hc, hf, e22, e25, hl]
              exact ⟨Below.refl _ _, rfl⟩
            refine gSt (gStep_run rfl ?_) ?_
            · intro ρ W hC hc hf hL
              have e5 : ρ (.tmp 5) = .pointer (some ⟨w.heap.size + 1 + 1, 0, none⟩) := hL 5 (by decide +kernel)
              have e18 : ρ (.tmp 18) = .int .i64 0 := hL 18 (by decide +kernel)
              simp [go_sem, hc, hf, e5, e18]
              exact ⟨Below.refl _ _, rfl⟩
            exact gSt0
          · intro W hC
            refine gFi 17 rfl ?_
            rintro _ rfl
            refine gFi 18 rfl ?_
            rintro _ rfl
            refine gFi 19 rfl ?_
            rintro _ rfl
            refine gFi 20 rfl ?_
            rintro _ rfl
            refine gFi 21 rfl ?_
            rintro _ rfl
            refine gFi 22 rfl ?_
            rintro _ rfl
            refine gFi 23 rfl ?_
            rintro _ rfl
            refine gFi 24 rfl ?_
            rintro _ rfl
            refine gFi 25 rfl ?_
            rintro _ rfl
            refine gFi 26 rfl ?_
            rintro _ rfl
            refine gFi 27 rfl ?_
            rintro _ rfl
            refine gFi0 ?_
            simp only [List.drop_succ_cons, List.drop_zero, Act.put, List.setIfInBounds_toArray, List.set_cons_succ, List.set_cons_zero]
            have HC := hide hC
            have hcl := hC.lr.1 0 (by decide)
            have hfr := hC.fr
            have hlt := hC.lr.2
            clear hC HS1 HQ HM HSH HAD
            go_wp2
            go_roundw
            case rel => exact ⟨n + 1, by omega, rfl, by rw [HRR.out]; exact HC.out.set 0 r' (by decide) HOT.out⟩
            case measure =>
              show P - 1 - ((n : Int) + 1).toNat < P - 1 - ((n : Int)).toNat
              omega
        · have HQ : Hid ((n : Int).tdiv 64 = 1) := by unfold Hid; rw [Int.tdiv_eq_ediv_of_nonneg (by omega)]; omega
          obtain ⟨e, he⟩ : ∃ e, n - 64 = e := ⟨_, rfl⟩
          have HM : Hid ((n : Int).tmod 64 = (e : Int)) := by unfold Hid; rw [Int.tmod_eq_emod_of_nonneg (by omega)]; omega
          have hp1 : 2 ^ e ≤ 2 ^ 63 := Nat.pow_le_pow_right (by decide) (by omega)
          have hpe : ((2 : Int) ^ e) = ((2 ^ e : Nat) : Int) := by rw [Int.natCast_pow]; rfl
          have HSH : Hid (IntKind.u64.wrap ((2 : Int) ^ e) = (2 : Int) ^ e) := by
            unfold Hid
            rw [hpe, IntKind.wrap_u64]
            generalize 2 ^ e = y at hp1 ⊢
            omega
          have HE6 := hide (show (e : Int) < 64 by omega)
          have HAD : Hid (IntKind.u64.wrap (((dgl r 1 : Nat) : Int) + (2 : Int) ^ e) = ((dgl r' 1 : Nat) : Int)) := by
            unfold Hid
            rw [hpe]
            have h1 := frac_high1 n r h64 hnb hrl
            have h2 := dgl_lt (r + 2 ^ n) 1
            rw [← hr', h1, IntKind.wrap_u64]
            rw [h1] at h2
            first | rw [← he] | skip
            generalize (2 : Nat) ^ _ = y at h2 ⊢
            omega
          have HOT : Hid (∀ j, j ≠ 1 → dgl r' j = dgl r j) := fun j hj => by rw [← hr']; exact frac_high n r j h64 hnb hrl hj
          clear hr' he hrl hp1 hpe
          go_upto_region 6 with fail
          refine wp_region_grow 11 [(17, .val (.int .i64 (n : Nat))), (18, .val (.int .i64 1)), (19, .val (.int .i64 (n : Nat))), (20, .val (.int .i64 1)), (21, .val (.pointer (some ⟨w.heap.size + 1 + 1, 1, none⟩))), (22, .val (.int .u64 (dgl r 1 : Nat))), (23, .val (.int .i64 (n : Nat))), (24, .val (.int .i64 ((e : Nat) : Int))), (25, .val (.int .u64 ((2 : Int) ^ e))), (26, .val (.int .u64 (dgl r' 1 : Nat))), (27, .val (.pointer (some ⟨w.heap.size + 1 + 1, 1, none⟩)))]
            (fun W => FrSt hi lo r w W) mixedOk (by kernel_rfl) (by kernel_rfl) (HS1.out.below (Below.refl _ _).drew) (fun W W' h hb => h.below hb) ?_ ?_
          · refine gSt (gStep_run rfl (gRun_move 6 17 (.inl rfl) rfl (by decide +kernel) (fun v w h => h))) ?_
            refine gSt (gStep_run rfl ?_) ?_
            · intro ρ W hC hc hf hL
              have e17 : ρ (.tmp 17) = .int .i64 (n : Nat) := hL 17 (by decide +kernel)
              have hl := HQ.out
              simp [go_sem, hc, hf, e17, hl]
              exact ⟨Below.refl _ _, rfl⟩
            refine gSt (gStep_run rfl (gRun_move 6 19 (.inl rfl) rfl (by decide +kernel) (fun v w h => h))) ?_
            refine gSt (gStep_run rfl ?_) ?_
            · intro ρ W hC hc hf hL
              have e19 : ρ (.tmp 19) = .int .i64 (n : Nat) := hL 19 (by decide +kernel)
              have hl := HQ.out
              simp [go_sem, hc, hf, e19, hl]
              exact ⟨Below.refl _ _, rfl⟩
            refine gSt (gStep_run rfl ?_) ?_
            · intro ρ W hC hc hf hL
              have e5 : ρ (.tmp 5) = .pointer (some ⟨w.heap.size + 1 + 1, 0, none⟩) := hL 5 (by decide +kernel)
              have e20 : ρ (.tmp 20) = .int .i64 1 := hL 20 (by decide +kernel)
              simp [go_sem, hc, hf, e5, e20]
              exact ⟨Below.refl _ _, rfl⟩
            refine gSt (gStep_run rfl ?_) ?_
            · intro ρ W hC hc hf hL
              have e21 : ρ (.tmp 21) = .pointer (some ⟨w.heap.size + 1 + 1, 1, none⟩) := hL 21 (by decide +kernel)
              have hl := hC.lr.1 1 (by decide)
              simp [go_sem, hc, hf, e21, hl]
              exact ⟨Below.refl _ _, rfl⟩
            refine gSt (gStep_run rfl (gRun_move 6 23 (.inl rfl) rfl (by decide +kernel) (fun v w h => h))) ?_
            refine gSt (gStep_run rfl ?_) ?_
            · intro ρ W hC hc hf hL
              have e23 : ρ (.tmp 23) = .int .i64 (n : Nat) := hL 23 (by decide +kernel)
              have hl := HM.out
              simp [go_sem, hc, hf, e23, hl]
              exact ⟨Below.refl _ _, rfl⟩
            refine gSt (gStep_run rfl ?_) ?_
            · intro ρ W hC hc hf hL
              have e24 : ρ (.tmp 24) = .int .i64 ((e : Nat) : Int) := hL 24 (by decide +kernel)
              have hl := HSH.out
              have h0 : (0 : Int) ≤ (e : Int) := by omega
              have h6 := HE6.out
              simp [go_sem, hc, hf, e24, hl, h0, h6]
              exact ⟨Below.refl _ _, rfl⟩
            refine gSt (gStep_run rfl ?_) ?_
            · intro ρ W hC hc hf hL
              have e22 : ρ (.tmp 22) = .int .u64 (dgl r 1 : Nat) := hL 22 (by decide +kernel)
              have e25 : ρ (.tmp 25) = .int .u64 ((2 : Int) ^ e) := hL 25 (by decide +kernel)
              have hl := HAD.out
              simp [go_sem, hc, hf, e22, e25, hl]
              exact ⟨Below.refl _ _, rfl⟩
            refine gSt (gStep_run rfl ?_) ?_
            · intro ρ W hC hc hf hL
              have e5 : ρ (.tmp 5) = .pointer (some ⟨w.heap.size + 1 + 1, 0, none⟩) := hL 5 (by decide +kernel)
              have e18 : ρ (.tmp 18) = .int .i64 1 := hL 18 (by decide +kernel)
              simp [go_sem, hc, hf, e5, e18]
              exact ⟨Below.refl _ _, rfl⟩
            exact gSt0
          · intro W hC
            refine gFi 17 rfl ?_
            rintro _ rfl
            refine gFi 18 rfl ?_
            rintro _ rfl
            refine gFi 19 rfl ?_
            rintro _ rfl
            refine gFi 20 rfl ?_
            rintro _ rfl
            refine gFi 21 rfl ?_
            rintro _ rfl
            refine gFi 22 rfl ?_
            rintro _ rfl
            refine gFi 23 rfl ?_
            rintro _ rfl
            refine gFi 24 rfl ?_
            rintro _ rfl
            refine gFi 25 rfl ?_
            rintro _ rfl
            refine gFi 26 rfl ?_
            rintro _ rfl
            refine gFi 27 rfl ?_
            rintro _ rfl
            refine gFi0 ?_
            simp only [List.drop_succ_cons, List.drop_zero, Act.put, List.setIfInBounds_toArray, List.set_cons_succ, List.set_cons_zero]
            have HC := hide hC
            have hcl := hC.lr.1 1 (by decide)
            have hfr := hC.fr
            have hlt := hC.lr.2
            clear hC HS1 HQ HM HSH HAD
            go_wp2
            go_roundw
            case rel => exact ⟨n + 1, by omega, rfl, by rw [HRR.out]; exact HC.out.set 1 r' (by decide) HOT.out⟩
            case measure =>
              show P - 1 - ((n : Int) + 1).toNat < P - 1 - ((n : Int)).toNat
              omega
      · have hbb : (a / 2 ^ n % 2 == 1) = false := by rw [beq_eq_false_iff_ne]; exact hbit
        have hb0 : a / 2 ^ n % 2 = 0 := by
          have hlow : a / 2 ^ n % 2 < 2 := Nat.mod_lt _ (by decide)
          generalize a / 2 ^ n % 2 = y at hbit hlow ⊢
          omega
        rw [hbb]
        rw [hb0, Nat.mul_zero, Nat.add_zero] at hms
        have HMS := hide hms
        clear hbit hbb hb0 hms
        go_wp2
        go_roundw
        case rel => exact ⟨n + 1, by omega, rfl, by rw [HMS.out]; exact HS1⟩
        case measure =>
          show P - 1 - ((n : Int) + 1).toNat < P - 1 - ((n : Int)).toNat
          omega
    · have hj : ¬ (n : Int) < (P : Int) - 1 := by omega
      have hnP : n = P - 1 := by omega
      have HST := hide hst.out
      rw [hnP] at HST
      clear hst
      go_wp2_with fail
      refine (HP.out _).mono ?_
      rintro e w1 ⟨rfl, hw⟩
      subst w1
      have h1 := HST.out.lz.1
      have f1 := HST.out.fz
      have q1 := HST.out.lz.2
      have h2 := HST.out.lr.1
      have HB := hide HST.out.s.bel
      clear HST hnP
      go_wp2
      exact bodyPost_ret (v := .agg #[.int .u64 (dgl ((a % 2 ^ (P - 1))) 0 : Nat), .int .u64 (dgl ((a % 2 ^ (P - 1))) 1 : Nat), .int .u64 (dgl ((a % 2 ^ (P - 1))) 2 : Nat), .int .u64 (dgl ((a % 2 ^ (P - 1))) 3 : Nat), .int .u64 (dgl ((a % 2 ^ (P - 1))) 4 : Nat), .int .u64 (dgl ((a % 2 ^ (P - 1))) 5 : Nat), .int .u64 (dgl ((a % 2 ^ (P - 1))) 6 : Nat), .int .u64 (dgl ((a % 2 ^ (P - 1))) 7 : Nat)]) (by simp [results, Tryd.results24, go_sem, h1, q1]) rfl ⟨rfl, below_set8 HB.out _ (by omega) _ _ _ _ _ _ _ _⟩
theorem refFrac_1 (hi lo : Nat) (hh : hi < 18446744073709551616) (hl : lo < 18446744073709551616) (w : World) : Calls Tryd.prog 24 #[.int .i64 1, .agg #[.int .u64 (hi : Nat), .int .u64 (lo : Nat)]] w fun e w' => e = .returned (.agg #[.int .u64 (dgl (((lo + 18446744073709551616 * hi) % 2 ^ 10)) 0 : Nat), .int .u64 (dgl (((lo + 18446744073709551616 * hi) % 2 ^ 10)) 1 : Nat), .int .u64 (dgl (((lo + 18446744073709551616 * hi) % 2 ^ 10)) 2 : Nat), .int .u64 (dgl (((lo + 18446744073709551616 * hi) % 2 ^ 10)) 3 : Nat), .int .u64 (dgl (((lo + 18446744073709551616 * hi) % 2 ^ 10)) 4 : Nat), .int .u64 (dgl (((lo + 18446744073709551616 * hi) % 2 ^ 10)) 5 : Nat), .int .u64 (dgl (((lo + 18446744073709551616 * hi) % 2 ^ 10)) 6 : Nat), .int .u64 (dgl (((lo + 18446744073709551616 * hi) % 2 ^ 10)) 7 : Nat)]) ∧ Below w.heap.size w w' :=
  refFrac_walk 1 11 hi lo (by decide) (by decide) hh hl (fun w => prec_1 w) w
theorem refFrac_2 (hi lo : Nat) (hh : hi < 18446744073709551616) (hl : lo < 18446744073709551616) (w : World) : Calls Tryd.prog 24 #[.int .i64 2, .agg #[.int .u64 (hi : Nat), .int .u64 (lo : Nat)]] w fun e w' => e = .returned (.agg #[.int .u64 (dgl (((lo + 18446744073709551616 * hi) % 2 ^ 23)) 0 : Nat), .int .u64 (dgl (((lo + 18446744073709551616 * hi) % 2 ^ 23)) 1 : Nat), .int .u64 (dgl (((lo + 18446744073709551616 * hi) % 2 ^ 23)) 2 : Nat), .int .u64 (dgl (((lo + 18446744073709551616 * hi) % 2 ^ 23)) 3 : Nat), .int .u64 (dgl (((lo + 18446744073709551616 * hi) % 2 ^ 23)) 4 : Nat), .int .u64 (dgl (((lo + 18446744073709551616 * hi) % 2 ^ 23)) 5 : Nat), .int .u64 (dgl (((lo + 18446744073709551616 * hi) % 2 ^ 23)) 6 : Nat), .int .u64 (dgl (((lo + 18446744073709551616 * hi) % 2 ^ 23)) 7 : Nat)]) ∧ Below w.heap.size w w' :=
  refFrac_walk 2 24 hi lo (by decide) (by decide) hh hl (fun w => prec_2 w) w
theorem refFrac_3 (hi lo : Nat) (hh : hi < 18446744073709551616) (hl : lo < 18446744073709551616) (w : World) : Calls Tryd.prog 24 #[.int .i64 3, .agg #[.int .u64 (hi : Nat), .int .u64 (lo : Nat)]] w fun e w' => e = .returned (.agg #[.int .u64 (dgl (((lo + 18446744073709551616 * hi) % 2 ^ 52)) 0 : Nat), .int .u64 (dgl (((lo + 18446744073709551616 * hi) % 2 ^ 52)) 1 : Nat), .int .u64 (dgl (((lo + 18446744073709551616 * hi) % 2 ^ 52)) 2 : Nat), .int .u64 (dgl (((lo + 18446744073709551616 * hi) % 2 ^ 52)) 3 : Nat), .int .u64 (dgl (((lo + 18446744073709551616 * hi) % 2 ^ 52)) 4 : Nat), .int .u64 (dgl (((lo + 18446744073709551616 * hi) % 2 ^ 52)) 5 : Nat), .int .u64 (dgl (((lo + 18446744073709551616 * hi) % 2 ^ 52)) 6 : Nat), .int .u64 (dgl (((lo + 18446744073709551616 * hi) % 2 ^ 52)) 7 : Nat)]) ∧ Below w.heap.size w w' :=
  refFrac_walk 3 53 hi lo (by decide) (by decide) hh hl (fun w => prec_3 w) w
theorem refFrac_4 (hi lo : Nat) (hh : hi < 18446744073709551616) (hl : lo < 18446744073709551616) (w : World) : Calls Tryd.prog 24 #[.int .i64 4, .agg #[.int .u64 (hi : Nat), .int .u64 (lo : Nat)]] w fun e w' => e = .returned (.agg #[.int .u64 (dgl (((lo + 18446744073709551616 * hi) % 2 ^ 112)) 0 : Nat), .int .u64 (dgl (((lo + 18446744073709551616 * hi) % 2 ^ 112)) 1 : Nat), .int .u64 (dgl (((lo + 18446744073709551616 * hi) % 2 ^ 112)) 2 : Nat), .int .u64 (dgl (((lo + 18446744073709551616 * hi) % 2 ^ 112)) 3 : Nat), .int .u64 (dgl (((lo + 18446744073709551616 * hi) % 2 ^ 112)) 4 : Nat), .int .u64 (dgl (((lo + 18446744073709551616 * hi) % 2 ^ 112)) 5 : Nat), .int .u64 (dgl (((lo + 18446744073709551616 * hi) % 2 ^ 112)) 6 : Nat), .int .u64 (dgl (((lo + 18446744073709551616 * hi) % 2 ^ 112)) 7 : Nat)]) ∧ Below w.heap.size w w' :=
  refFrac_walk 4 113 hi lo (by decide) (by decide) hh hl (fun w => prec_4 w) w

end Go.Proofs.YtidfegilddlglaaDoor

