/- Contracts and laws: ClsF, ClsG, ClsH, ClsI. -/
import Derived.Test.YtpcjdllijkjdkaaGreatDoorPartAR
import Derived.Deep.DeepCutAuto
/- Contracts: radicandref06.Fraction. -/
set_option linter.unusedVariables false
set_option linter.unusedSimpArgs false
set_option maxRecDepth 8000
namespace Go.Proofs.YtpcjdllijkjdkaaGreatDoor
open Go.RowKit Plain

theorem dgl_zero_of_lt {x : Nat} (j : Nat) (h : x < 18446744073709551616 ^ j) : dgl x j = 0 := by unfold dgl; rw [Nat.div_eq_of_lt h]
theorem frac_low (n r j : Nat) (hn : n < 64) (hr : r < 2 ^ n) (hj : j ≠ 0) : dgl (r + 2 ^ n) j = dgl r j := by
  have h1 : 2 ^ n ≤ 2 ^ 63 := Nat.pow_le_pow_right (by decide) (by omega)
  have h2 : 18446744073709551616 ^ 1 ≤ 18446744073709551616 ^ j := Nat.pow_le_pow_right (by decide) (by omega)
  rw [dgl_zero_of_lt j (by omega), dgl_zero_of_lt j (by omega)]
theorem frac_low0 (n r : Nat) (hn : n < 64) (hr : r < 2 ^ n) : dgl (r + 2 ^ n) 0 = dgl r 0 + 2 ^ n := by
  have h1 : 2 ^ n ≤ 2 ^ 63 := Nat.pow_le_pow_right (by decide) (by omega)
  rw [dgl0, dgl0, Nat.mod_eq_of_lt (by omega), Nat.mod_eq_of_lt (by omega)]
theorem frac_e (n : Nat) (hn : ¬ n < 64) : 2 ^ n = 18446744073709551616 * 2 ^ (n - 64) := by
  rw [show (18446744073709551616 : Nat) = 2 ^ 64 by decide +kernel, ← Nat.pow_add, show 64 + (n - 64) = n by omega]
theorem frac_high (n r j : Nat) (hn : ¬ n < 64) (hn2 : n < 128) (hr : r < 2 ^ n) (hj : j ≠ 1) : dgl (r + 2 ^ n) j = dgl r j := by
  rcases Nat.eq_zero_or_pos j with h0 | h0
  · rw [h0, dgl0, dgl0, frac_e n hn, Nat.add_mul_mod_self_left]
  · have h1 : 2 ^ n ≤ 2 ^ 127 := Nat.pow_le_pow_right (by decide) (by omega)
    have h2 : 18446744073709551616 ^ 2 ≤ 18446744073709551616 ^ j := Nat.pow_le_pow_right (by decide) (by omega)
    rw [dgl_zero_of_lt j (by omega), dgl_zero_of_lt j (by omega)]
theorem frac_high1 (n r : Nat) (hn : ¬ n < 64) (hn2 : n < 128) (hr : r < 2 ^ n) : dgl (r + 2 ^ n) 1 = dgl r 1 + 2 ^ (n - 64) := by
  have h1 : 2 ^ (n - 64) ≤ 2 ^ 63 := Nat.pow_le_pow_right (by decide) (by omega)
  have h3 : r / 18446744073709551616 < 2 ^ (n - 64) := by
    rw [Nat.div_lt_iff_lt_mul (by decide), Nat.mul_comm, ← frac_e n hn]
    exact hr
  rw [dgl1, dgl1, frac_e n hn, Nat.add_mul_div_left _ _ (by decide), Nat.mod_eq_of_lt (by omega), Nat.mod_eq_of_lt (by omega)]

structure FrSt (hi lo r : Nat) (w W : World) : Prop where
  s : FitSt hi lo w W
  lz : LiesF W (w.heap.size + 1) (fun _ => 0)
  fz : ∀ i, W.frozen? ⟨w.heap.size + 1, i, none⟩ = false
  lr : LiesF W (w.heap.size + 1 + 1) (dgl r)
  fr : ∀ i, W.frozen? ⟨w.heap.size + 1 + 1, i, none⟩ = false
theorem FrSt.below {hi lo r : Nat} {w W W' : World} (h : FrSt hi lo r w W) (hb : Below W.heap.size W W') : FrSt hi lo r w W' :=
  ⟨h.s.below hb, h.lz.below hb, fun i => (hb.frozen (p := ⟨w.heap.size + 1, i, none⟩) h.lz.2).trans (h.fz i), h.lr.below hb, fun i => (hb.frozen (p := ⟨w.heap.size + 1 + 1, i, none⟩) h.lr.2).trans (h.fr i)⟩
theorem frSt_start (hi lo : Nat) (w : World) : FrSt hi lo 0 w (((w.alloc (.cells #[.int .u64 (hi : Nat), .int .u64 (lo : Nat)] 29)).alloc (.cells #[.int .u64 0, .int .u64 0, .int .u64 0, .int .u64 0, .int .u64 0, .int .u64 0, .int .u64 0, .int .u64 0] 25)).alloc (.cells #[.int .u64 0, .int .u64 0, .int .u64 0, .int .u64 0, .int .u64 0, .int .u64 0, .int .u64 0, .int .u64 0] 25)) := by
  have l1 := (liesF_new (w.alloc (.cells #[.int .u64 (hi : Nat), .int .u64 (lo : Nat)] 29)) (fun _ => 0) 25).alloc (.cells #[.int .u64 0, .int .u64 0, .int .u64 0, .int .u64 0, .int .u64 0, .int .u64 0, .int .u64 0, .int .u64 0] 25)
  have l2 := liesF_new ((w.alloc (.cells #[.int .u64 (hi : Nat), .int .u64 (lo : Nat)] 29)).alloc (.cells #[.int .u64 0, .int .u64 0, .int .u64 0, .int .u64 0, .int .u64 0, .int .u64 0, .int .u64 0, .int .u64 0] 25)) (fun _ => 0) 25
  rw [World.size_alloc] at l1
  rw [World.size_alloc, World.size_alloc] at l2
  refine ⟨((fitSt_start hi lo w).below (below_allocs _ _)).below (below_allocs _ _), l1, fun i => by simp [go_sem], ?_, fun i => by simp [go_sem]⟩
  have e : (dgl 0) = (fun _ => 0) := by funext i; exact dgl_zero i
  rw [e]
  exact l2
theorem FrSt.set {hi lo r : Nat} {w W : World} (h : FrSt hi lo r w W) (q r' : Nat) (hq : q < 8) (he : ∀ j, j ≠ q → dgl r' j = dgl r j) : FrSt hi lo r' w (W.setCell ⟨w.heap.size + 1 + 1, q, none⟩ (.int .u64 (dgl r' q : Nat))) := by
  have hb := (Below.refl (w.heap.size + 1 + 1) W).setCell (p := ⟨w.heap.size + 1 + 1, q, none⟩) (Nat.le_refl _) (.int .u64 (dgl r' q : Nat))
  have hs := hb.size
  have h1 := h.s.lt
  refine ⟨⟨(hb.cell (p := ⟨w.heap.size, 0, none⟩) (show w.heap.size < w.heap.size + 1 + 1 by omega)).trans h.s.h, (hb.cell (p := ⟨w.heap.size, 1, none⟩) (show w.heap.size < w.heap.size + 1 + 1 by omega)).trans h.s.l, Nat.lt_of_lt_of_le h.s.lt hb.size, h.s.bel.trans (hb.mono (by omega))⟩,
    lies_box h.lz hb (by omega), fun i => (hb.frozen (p := ⟨w.heap.size + 1, i, none⟩) (show w.heap.size + 1 < w.heap.size + 1 + 1 by omega)).trans (h.fz i), ⟨fun i hi => ?_, Nat.lt_of_lt_of_le h.lr.2 hb.size⟩, fun i => by simpa [go_sem] using h.fr i⟩
  have hc := h.lr.1 q hq
  by_cases hiq : i = q
  · subst hiq
    simp [go_sem, hc]
  · have hci := h.lr.1 i hi
    have hne : ¬ q = i := fun h => hiq h.symm
    rw [he i hiq]
    simpa [go_sem, hiq, hne] using hci

set_option maxHeartbeats 1000000 in
theorem refFrac_walk (f : Int) (P hi lo : Nat) (hP : 2 ≤ P) (hP1 : P ≤ 128) (hh : hi < 18446744073709551616) (hl : lo < 18446744073709551616)
    (HP : Hid (∀ w, Calls Tryz.prog 8 #[.int .i64 f] w fun e w' => e = .returned (.int .i64 (P : Nat)) ∧ w' = w)) (w : World) :
    Calls Tryz.prog 93 #[.int .i64 f, .agg #[.int .u64 (hi : Nat), .int .u64 (lo : Nat)]] w fun e w' => e = .returned (.agg #[.int .u64 (dgl (((lo + 18446744073709551616 * hi) % 2 ^ (P - 1))) 0 : Nat), .int .u64 (dgl (((lo + 18446744073709551616 * hi) % 2 ^ (P - 1))) 1 : Nat), .int .u64 (dgl (((lo + 18446744073709551616 * hi) % 2 ^ (P - 1))) 2 : Nat), .int .u64 (dgl (((lo + 18446744073709551616 * hi) % 2 ^ (P - 1))) 3 : Nat), .int .u64 (dgl (((lo + 18446744073709551616 * hi) % 2 ^ (P - 1))) 4 : Nat), .int .u64 (dgl (((lo + 18446744073709551616 * hi) % 2 ^ (P - 1))) 5 : Nat), .int .u64 (dgl (((lo + 18446744073709551616 * hi) % 2 ^ (P - 1))) 6 : Nat), .int .u64 (dgl (((lo + 18446744073709551616 * hi) % 2 ^ (P - 1))) 7 : Nat)]) ∧ Below w.heap.size w w' := by
  have HBT := hide (fun n hn w => refBit5_any hi lo n hh hl hn (n : Int) rfl w)
  have HST := hide (frSt_start hi lo w)
  have hP' : (P : Int) ≤ 128 := by omega
  have hP2 : (2 : Int) ≤ (P : Int) := by omega
  clear hh hl
  generalize (lo + 18446744073709551616 * hi) = a at *
  go_enter Tryz.func93, Tryz.ntmps93
  go_wp2_with fail
  go_loopw [6] (fun i wr => ∃ n : Nat, n ≤ P - 1 ∧ i = .int .i64 n ∧ Hid (FrSt hi lo (a % 2 ^ n) w wr)) (fun i _ => P - 1 - (intOf i).toNat)
  case atStart => exact ⟨0, Nat.zero_le _, rfl, by rw [Nat.pow_zero, Nat.mod_one]; exact HST⟩
  case round =>
    clear HST
    obtain ⟨n, hn, rfl, hst⟩ := hrel
    by_cases hlt : n < P - 1
    · have hj : (n : Int) < (P : Int) - 1 := by omega
      have c0 := hst.out.s.h
      have c1 := hst.out.s.l
      have c2 := hst.out.s.lt
      have hnb : n < 128 := by omega
      go_wp2_with fail
      refine (HP.out _).mono ?_
      rintro e w1 ⟨rfl, hw⟩
      subst w1
      go_wp2_with fail
      refine (HBT.out n hnb _).mono ?_
      rintro e w1 ⟨rfl, hb1⟩
      have HS1 := hide (hst.out.below hb1)
      clear hb1 c0 c1 c2 hst
      have hms : a % 2 ^ (n + 1) = a % 2 ^ n + 2 ^ n * (a / 2 ^ n % 2) := by rw [Nat.pow_succ, Nat.mod_mul]
      by_cases hbit : a / 2 ^ n % 2 = 1
      · have hbb : (a / 2 ^ n % 2 == 1) = true := by rw [beq_iff_eq]; exact hbit
        rw [hbb]
        rw [hbit, Nat.mul_one] at hms
        have hrl : a % 2 ^ n < 2 ^ n := Nat.mod_lt _ (Nat.two_pow_pos _)
        have HRR := hide hms
        clear hbit hbb hms
        generalize a % 2 ^ n = r at *
        obtain ⟨r', hr'⟩ : ∃ r', r + 2 ^ n = r' := ⟨_, rfl⟩
        rw [hr'] at HRR
        by_cases h64 : n < 64
        · have HQ : Hid ((n : Int).tdiv 64 = 0) := by unfold Hid; rw [Int.tdiv_eq_ediv_of_nonneg (by omega)]; omega
          obtain ⟨e, he⟩ : ∃ e, n = e := ⟨_, rfl⟩
          have HM : Hid ((n : Int).tmod 64 = (e : Int)) := by unfold Hid; rw [Int.tmod_eq_emod_of_nonneg (by omega)]; omega
          have hp1 : 2 ^ e ≤ 2 ^ 63 := Nat.pow_le_pow_right (by decide) (by omega)
          have hpe : ((2 : Int) ^ e) = ((2 ^ e : Nat) : Int) := by rw [Int.natCast_pow]; rfl
          have HSH : Hid (IntKind.u64.wrap ((2 : Int) ^ e) = (2 : Int) ^ e) := by
            unfold Hid
            rw [hpe, IntKind.wrap_u64]
            generalize 2 ^ e = y at hp1 ⊢
            omega
          have HE6 := hide (show (e : Int) < 64 by omega)
          have HAD : Hid (IntKind.u64.wrap (((dgl r 0 : Nat) : Int) + (2 : Int) ^ e) = ((dgl r' 0 : Nat) : Int)) := by
            unfold Hid
            rw [hpe]
            have h1 := frac_low0 n r h64 hrl
            have h2 := dgl_lt (r + 2 ^ n) 0
            rw [← hr', h1, IntKind.wrap_u64]
            rw [h1] at h2
            first | rw [← he] | skip
            generalize (2 : Nat) ^ _ = y at h2 ⊢
            omega
          have HOT : Hid (∀ j, j ≠ 0 → dgl r' j = dgl r j) := fun j hj => by rw [← hr']; exact frac_low n r j h64 hrl hj
          clear hr' he hrl hp1 hpe
          go_upto_region 6 with fail
          refine wp_region_grow 11 [(17, .val (.int .i64 (n : Nat))), (18, .val (.int .i64 0)), (19, .val (.int .i64 (n : Nat))), (20, .val (.int .i64 0)), (21, .val (.pointer (some ⟨w.heap.size + 1 + 1, 0, none⟩))), (22, .val (.int .u64 (dgl r 0 : Nat))), (23, .val (.int .i64 (n : Nat))), (24, .val (.int .i64 ((e : Nat) : Int))), (25, .val (.int .u64 ((2 : Int) ^ e))), (26, .val (.int .u64 (dgl r' 0 : Nat))), (27, .val (.pointer (some ⟨w.heap.size + 1 + 1, 0, none⟩)))]
            (fun W => FrSt hi lo r w W) mixedOk (by kernel_rfl) (by kernel_rfl) (HS1.out.below (Below.refl _ _).drew) (fun W W' h hb => h.below hb) ?_ ?_
          · refine gSt (gStep_run rfl (gRun_move 6 17 (.inl rfl) rfl (by decide +kernel) (fun v w h => h))) ?_
            refine gSt (gStep_run rfl ?_) ?_
            · intro ρ W hC hc hf hL
              have e17 : ρ (.tmp 17) = .int .i64 (n : Nat) := hL 17 (by decide +kernel)
              have hl := HQ.out
              simp [go_sem, hc, hf, e17, hl]
              exact ⟨Below.refl _ _, rfl⟩
            refine gSt (gStep_run rfl (gRun_move 6 19 (.inl rfl) rfl (by decide +kernel) (fun v w h => h))) ?_
            refine gSt (gStep_run rfl ?_) ?_
            · intro ρ W hC hc hf hL
              have e19 : ρ (.tmp 19) = .int .i64 (n : Nat) := hL 19 (by decide +kernel)
              have hl := HQ.out
              simp [go_sem, hc, hf, e19, hl]
              exact ⟨Below.refl _ _, rfl⟩
            refine gSt (gStep_run rfl ?_) ?_
            · intro ρ W hC hc hf hL
              have e5 : ρ (.tmp 5) = .pointer (some ⟨w.heap.size + 1 + 1, 0, none⟩) := hL 5 (by decide +kernel)
              have e20 : ρ (.tmp 20) = .int .i64 0 := hL 20 (by decide +kernel)
              simp [go_sem, hc, hf, e5, e20]
              exact ⟨Below.refl _ _, rfl⟩
            refine gSt (gStep_run rfl ?_) ?_
            · intro ρ W hC hc hf hL
              have e21 : ρ (.tmp 21) = .pointer (some ⟨w.heap.size + 1 + 1, 0, none⟩) := hL 21 (by decide +kernel)
              have hl := hC.lr.1 0 (by decide)
              simp [go_sem, hc, hf, e21, hl]
              exact ⟨Below.refl _ _, rfl⟩
            refine gSt (gStep_run rfl (gRun_move 6 23 (.inl rfl) rfl (by decide +kernel) (fun v w h => h))) ?_
            refine gSt (gStep_run rfl ?_) ?_
            · intro ρ W hC hc hf hL
              have e23 : ρ (.tmp 23) = .int .i64 (n : Nat) := hL 23 (by decide +kernel)
              have hl := HM.out
              simp [go_sem, hc, hf, e23, hl]
              exact ⟨Below.refl _ _, rfl⟩
            refine gSt (gStep_run rfl ?_) ?_
            · intro ρ W hC hc hf hL
              have e24 : ρ (.tmp 24) = .int .i64 ((e : Nat) : Int) := hL 24 (by decide +kernel)
              have hl := HSH.out
              have h0 : (0 : Int) ≤ (e : Int) := by omega
              have h6 := HE6.out
              simp [go_sem, hc, hf, e24, hl, h0, h6]
              exact ⟨Below.refl _ _, rfl⟩
            refine gSt (gStep_run rfl ?_) ?_
            · intro ρ W hC hc hf hL
              have e22 : ρ (.tmp 22) = .int .u64 (dgl r 0 : Nat) := hL 22 (by decide +kernel)
              have e25 : ρ (.tmp 25) = .int .u64 ((2 : Int) ^ e) := hL 25 (by decide +kernel)
              have hl := HAD.out
              simp [go_sem, hc, hf, e22, e25, hl]
              exact ⟨Below.refl _ _, rfl⟩
            refine gSt (gStep_run rfl ?_) ?_
            · intro ρ W hC hc hf hL
              have e5 : ρ (.tmp 5) = .pointer (some ⟨w.heap.size + 1 + 1, 0, none⟩) := hL 5 (by decide +kernel)
              have e18 : ρ (.tmp 18) = .int .i64 0 := hL 18 (by decide +kernel)
              simp [go_sem, hc, hf, e5, e18]
              exact ⟨Below.refl _ _, rfl⟩
            exact gSt0
          · intro W hC
            refine gFi 17 rfl ?_
            rintro _ rfl
            refine gFi 18 rfl ?_
            rintro _ rfl
            refine gFi 19 rfl ?_
            rintro _ rfl
            refine gFi 20 rfl ?_
            rintro _ rfl
            refine gFi 21 rfl ?_
            rintro _ rfl
            refine gFi 22 rfl ?_
            rintro _ rfl
            refine gFi 23 rfl ?_
            rintro _ rfl
            refine gFi 24 rfl ?_
            rintro _ rfl
            refine gFi 25 rfl ?_
            rintro _ rfl
            refine gFi 26 rfl ?_
            rintro _ rfl
            refine gFi 27 rfl ?_
            rintro _ rfl
            refine gFi0 ?_
            simp only [List.drop_succ_cons, List.drop_zero, Act.put, List.setIfInBounds_toArray, List.set_cons_succ, List.set_cons_zero]
            have HC := hide hC
            have hcl := hC.lr.1 0 (by decide)
            have hfr := hC.fr
            have hlt := hC.lr.2
            clear hC HS1 HQ HM HSH HAD
            go_wp2
            go_roundw
            case rel => exact ⟨n + 1, by omega, rfl, by rw [HRR.out]; exact HC.out.set 0 r' (by decide) HOT.out⟩
            case measure =>
              show P - 1 - ((n : Int) + 1).toNat < P - 1 - ((n : Int)).toNat
              omega
        · have HQ : Hid ((n : Int).tdiv 64 = 1) := by unfold Hid; rw [Int.tdiv_eq_ediv_of_nonneg (by omega)]; omega
          obtain ⟨e, he⟩ : ∃ e, n - 64 = e := ⟨_, rfl⟩
          have HM : Hid ((n : Int).tmod 64 = (e : Int)) := by unfold Hid; rw [Int.tmod_eq_emod_of_nonneg (by omega)]; omega
          have hp1 : 2 ^ e ≤ 2 ^ 63 := Nat.pow_le_pow_right (by decide) (by omega)
          have hpe : ((2 : Int) ^ e) = ((2 ^ e : Nat) : Int) := by rw [Int.natCast_pow]; rfl
          have HSH : Hid (IntKind.u64.wrap ((2 : Int) ^ e) = (2 : Int) ^ e) := by
            unfold Hid
            rw [hpe, IntKind.wrap_u64]
            generalize 2 ^ e = y at hp1 ⊢
            omega
          have HE6 := hide (show (e : Int) < 64 by omega)
          have HAD : Hid (IntKind.u64.wrap (((dgl r 1 : Nat) : Int) + (2 : Int) ^ e) = ((dgl r' 1 : Nat) : Int)) := by
            unfold Hid
            rw [hpe]
            have h1 := frac_high1 n r h64 hnb hrl
            have h2 := dgl_lt (r + 2 ^ n) 1
            rw [← hr', h1, IntKind.wrap_u64]
            rw [h1] at h2
            first | rw [← he] | skip
            generalize (2 : Nat) ^ _ = y at h2 ⊢
            omega
          have HOT : Hid (∀ j, j ≠ 1 → dgl r' j = dgl r j) := fun j hj => by rw [← hr']; exact frac_high n r j h64 hnb hrl hj
          clear hr' he hrl hp1 hpe
          go_upto_region 6 with fail
          refine wp_region_grow 11 [(17, .val (.int .i64 (n : Nat))), (18, .val (.int .i64 1)), (19, .val (.int .i64 (n : Nat))), (20, .val (.int .i64 1)), (21, .val (.pointer (some ⟨w.heap.size + 1 + 1, 1, none⟩))), (22, .val (.int .u64 (dgl r 1 : Nat))), (23, .val (.int .i64 (n : Nat))), (24, .val (.int .i64 ((e : Nat) : Int))), (25, .val (.int .u64 ((2 : Int) ^ e))), (26, .val (.int .u64 (dgl r' 1 : Nat))), (27, .val (.pointer (some ⟨w.heap.size + 1 + 1, 1, none⟩)))]
            (fun W => FrSt hi lo r w W) mixedOk (by kernel_rfl) (by kernel_rfl) (HS1.out.below (Below.refl _ _).drew) (fun W W' h hb => h.below hb) ?_ ?_
          · refine gSt (gStep_run rfl (gRun_move 6 17 (.inl rfl) rfl (by decide +kernel) (fun v w h => h))) ?_
            refine gSt (gStep_run rfl ?_) ?_
            · intro ρ W hC hc hf hL
              have e17 : ρ (.tmp 17) = .int .i64 (n : Nat) := hL 17 (by decide +kernel)
              have hl := HQ.out
              simp [go_sem, hc, hf, e17, hl]
              exact ⟨Below.refl _ _, rfl⟩
            refine gSt (gStep_run rfl (gRun_move 6 19 (.inl rfl) rfl (by decide +kernel) (fun v w h => h))) ?_
            refine gSt (gStep_run rfl ?_) ?_
            · intro ρ W hC hc hf hL
              have e19 : ρ (.tmp 19) = .int .i64 (n : Nat) := hL 19 (by decide +kernel)
              have hl := HQ.out
              simp [go_sem, hc, hf, e19, hl]
              exact ⟨Below.refl _ _, rfl⟩
            refine gSt (gStep_run rfl ?_) ?_
            · intro ρ W hC hc hf hL
              have e5 : ρ (.tmp 5) = .pointer (some ⟨w.heap.size + 1 + 1, 0, none⟩) := hL 5 (by decide +kernel)
              have e20 : ρ (.tmp 20) = .int .i64 1 := hL 20 (by decide +kernel)
              simp [go_sem, hc, hf, e5, e20]
              exact ⟨Below.refl _ _, rfl⟩
            refine gSt (gStep_run rfl ?_) ?_
            · intro ρ W hC hc hf hL
              have e21 : ρ (.tmp 21) = .pointer (some ⟨w.heap.size + 1 + 1, 1, none⟩) := hL 21 (by decide +kernel)
              have hl := hC.lr.1 1 (by decide)
              simp [go_sem, hc, hf, e21, hl]
              exact ⟨Below.refl _ _, rfl⟩
            refine gSt (gStep_run rfl (gRun_move 6 23 (.inl rfl) rfl (by decide +kernel) (fun v w h => h))) ?_
            refine gSt (gStep_run rfl ?_) ?_
            · intro ρ W hC hc hf hL
              have e23 : ρ (.tmp 23) = .int .i64 (n : Nat) := hL 23 (by decide +kernel)
              have hl := HM.out
              simp [go_sem, hc, hf, e23, hl]
              exact ⟨Below.refl _ _, rfl⟩
            refine gSt (gStep_run rfl ?_) ?_
            · intro ρ W hC hc hf hL
              have e24 : ρ (.tmp 24) = .int .i64 ((e : Nat) : Int) := hL 24 (by decide +kernel)
              have hl := HSH.out
              have h0 : (0 : Int) ≤ (e : Int) := by omega
              have h6 := HE6.out
              simp [go_sem, hc, hf, e24, hl, h0, h6]
              exact ⟨Below.refl _ _, rfl⟩
            refine gSt (gStep_run rfl ?_) ?_
            · intro ρ W hC hc hf hL
              have e22 : ρ (.tmp 22) = .int .u64 (dgl r 1 : Nat) := hL 22 (by decide +kernel)
              have e25 : ρ (.tmp 25) = .int .u64 ((2 : Int) ^ e) := hL 25 (by decide +kernel)
              have hl := HAD.out
              simp [go_sem, hc, hf, e22, e25, hl]
              exact ⟨Below.refl _ _, rfl⟩
            refine gSt (gStep_run rfl ?_) ?_
            · intro ρ W hC hc hf hL
              have e5 : ρ (.tmp 5) = .pointer (some ⟨w.heap.size + 1 + 1, 0, none⟩) := hL 5 (by decide +kernel)
              have e18 : ρ (.tmp 18) = .int .i64 1 := hL 18 (by decide +kernel)
              simp [go_sem, hc, hf, e5, e18]
              exact ⟨Below.refl _ _, rfl⟩
            exact gSt0
          · intro W hC
            refine gFi 17 rfl ?_
            rintro _ rfl
            refine gFi 18 rfl ?_
            rintro _ rfl
            refine gFi 19 rfl ?_
            rintro _ rfl
            refine gFi 20 rfl ?_
            rintro _ rfl
            refine gFi 21 rfl ?_
            rintro _ rfl
            refine gFi 22 rfl ?_
            rintro _ rfl
            refine gFi 23 rfl ?_
            rintro _ rfl
            refine gFi 24 rfl ?_
            rintro _ rfl
            refine gFi 25 rfl ?_
            rintro _ rfl
            refine gFi 26 rfl ?_
            rintro _ rfl
            refine gFi 27 rfl ?_
            rintro _ rfl
            refine gFi0 ?_
            simp only [List.drop_succ_cons, List.drop_zero, Act.put, List.setIfInBounds_toArray, List.set_cons_succ, List.set_cons_zero]
            have HC := hide hC
            have hcl := hC.lr.1 1 (by decide)
            have hfr := hC.fr
            have hlt := hC.lr.2
            clear hC HS1 HQ HM HSH HAD
            go_wp2
            go_roundw
            case rel => exact ⟨n + 1, by omega, rfl, by rw [HRR.out]; exact HC.out.set 1 r' (by decide) HOT.out⟩
            case measure =>
              show P - 1 - ((n : Int) + 1).toNat < P - 1 - ((n : Int)).toNat
              omega
      · have hbb : (a / 2 ^ n % 2 == 1) = false := by rw [beq_eq_false_iff_ne]; exact hbit
        have hb0 : a / 2 ^ n % 2 = 0 := by
          have hlow : a / 2 ^ n % 2 < 2 := Nat.mod_lt _ (by decide)
          generalize a / 2 ^ n % 2 = y at hbit hlow ⊢
          omega
        rw [hbb]
        rw [hb0, Nat.mul_zero, Nat.add_zero] at hms
        have HMS := hide hms
        clear hbit hbb hb0 hms
        go_wp2
        go_roundw
        case rel => exact ⟨n + 1, by omega, rfl, by rw [HMS.out]; exact HS1⟩
        case measure =>
          show P - 1 - ((n : Int) + 1).toNat < P - 1 - ((n : Int)).toNat
          omega
    · have hj : ¬ (n : Int) < (P : Int) - 1 := by omega
      have hnP : n = P - 1 := by omega
      have HST := hide hst.out
      rw [hnP] at HST
      clear hst
      go_wp2_with fail
      refine (HP.out _).mono ?_
      rintro e w1 ⟨rfl, hw⟩
      subst w1
      have h1 := HST.out.lz.1
      have f1 := HST.out.fz
      have q1 := HST.out.lz.2
      have h2 := HST.out.lr.1
      have HB := hide HST.out.s.bel
      clear HST hnP
      go_wp2
      exact bodyPost_ret (v := .agg #[.int .u64 (dgl ((a % 2 ^ (P - 1))) 0 : Nat), .int .u64 (dgl ((a % 2 ^ (P - 1))) 1 : Nat), .int .u64 (dgl ((a % 2 ^ (P - 1))) 2 : Nat), .int .u64 (dgl ((a % 2 ^ (P - 1))) 3 : Nat), .int .u64 (dgl ((a % 2 ^ (P - 1))) 4 : Nat), .int .u64 (dgl ((a % 2 ^ (P - 1))) 5 : Nat), .int .u64 (dgl ((a % 2 ^ (P - 1))) 6 : Nat), .int .u64 (dgl ((a % 2 ^ (P - 1))) 7 : Nat)]) (by simp [results, Tryz.results93, go_sem, h1, q1]) rfl ⟨rfl, below_set8 HB.out _ (by omega) _ _ _ _ _ _ _ _⟩
theorem refFrac_1 (hi lo : Nat) (hh : hi < 18446744073709551616) (hl : lo < 18446744073709551616) (w : World) : Calls Tryz.prog 93 #[.int .i64 1, .agg #[.int .u64 (hi : Nat), .int .u64 (lo : Nat)]] w fun e w' => e = .returned (.agg #[.int .u64 (dgl (((lo + 18446744073709551616 * hi) % 2 ^ 10)) 0 : Nat), .int .u64 (dgl (((lo + 18446744073709551616 * hi) % 2 ^ 10)) 1 : Nat), .int .u64 (dgl (((lo + 18446744073709551616 * hi) % 2 ^ 10)) 2 : Nat), .int .u64 (dgl (((lo + 18446744073709551616 * hi) % 2 ^ 10)) 3 : Nat), .int .u64 (dgl (((lo + 18446744073709551616 * hi) % 2 ^ 10)) 4 : Nat), .int .u64 (dgl (((lo + 18446744073709551616 * hi) % 2 ^ 10)) 5 : Nat), .int .u64 (dgl (((lo + 18446744073709551616 * hi) % 2 ^ 10)) 6 : Nat), .int .u64 (dgl (((lo + 18446744073709551616 * hi) % 2 ^ 10)) 7 : Nat)]) ∧ Below w.heap.size w w' :=
  refFrac_walk 1 11 hi lo (by decide) (by decide) hh hl (fun w => prec_1 w) w
theorem refFrac_2 (hi lo : Nat) (hh : hi < 18446744073709551616) (hl : lo < 18446744073709551616) (w : World) : Calls Tryz.prog 93 #[.int .i64 2, .agg #[.int .u64 (hi : Nat), .int .u64 (lo : Nat)]] w fun e w' => e = .returned (.agg #[.int .u64 (dgl (((lo + 18446744073709551616 * hi) % 2 ^ 23)) 0 : Nat), .int .u64 (dgl (((lo + 18446744073709551616 * hi) % 2 ^ 23)) 1 : Nat), .int .u64 (dgl (((lo + 18446744073709551616 * hi) % 2 ^ 23)) 2 : Nat), .int .u64 (dgl (((lo + 18446744073709551616 * hi) % 2 ^ 23)) 3 : Nat), .int .u64 (dgl (((lo + 18446744073709551616 * hi) % 2 ^ 23)) 4 : Nat), .int .u64 (dgl (((lo + 18446744073709551616 * hi) % 2 ^ 23)) 5 : Nat), .int .u64 (dgl (((lo + 18446744073709551616 * hi) % 2 ^ 23)) 6 : Nat), .int .u64 (dgl (((lo + 18446744073709551616 * hi) % 2 ^ 23)) 7 : Nat)]) ∧ Below w.heap.size w w' :=
  refFrac_walk 2 24 hi lo (by decide) (by decide) hh hl (fun w => prec_2 w) w
theorem refFrac_3 (hi lo : Nat) (hh : hi < 18446744073709551616) (hl : lo < 18446744073709551616) (w : World) : Calls Tryz.prog 93 #[.int .i64 3, .agg #[.int .u64 (hi : Nat), .int .u64 (lo : Nat)]] w fun e w' => e = .returned (.agg #[.int .u64 (dgl (((lo + 18446744073709551616 * hi) % 2 ^ 52)) 0 : Nat), .int .u64 (dgl (((lo + 18446744073709551616 * hi) % 2 ^ 52)) 1 : Nat), .int .u64 (dgl (((lo + 18446744073709551616 * hi) % 2 ^ 52)) 2 : Nat), .int .u64 (dgl (((lo + 18446744073709551616 * hi) % 2 ^ 52)) 3 : Nat), .int .u64 (dgl (((lo + 18446744073709551616 * hi) % 2 ^ 52)) 4 : Nat), .int .u64 (dgl (((lo + 18446744073709551616 * hi) % 2 ^ 52)) 5 : Nat), .int .u64 (dgl (((lo + 18446744073709551616 * hi) % 2 ^ 52)) 6 : Nat), .int .u64 (dgl (((lo + 18446744073709551616 * hi) % 2 ^ 52)) 7 : Nat)]) ∧ Below w.heap.size w w' :=
  refFrac_walk 3 53 hi lo (by decide) (by decide) hh hl (fun w => prec_3 w) w
theorem refFrac_4 (hi lo : Nat) (hh : hi < 18446744073709551616) (hl : lo < 18446744073709551616) (w : World) : Calls Tryz.prog 93 #[.int .i64 4, .agg #[.int .u64 (hi : Nat), .int .u64 (lo : Nat)]] w fun e w' => e = .returned (.agg #[.int .u64 (dgl (((lo + 18446744073709551616 * hi) % 2 ^ 112)) 0 : Nat), .int .u64 (dgl (((lo + 18446744073709551616 * hi) % 2 ^ 112)) 1 : Nat), .int .u64 (dgl (((lo + 18446744073709551616 * hi) % 2 ^ 112)) 2 : Nat), .int .u64 (dgl (((lo + 18446744073709551616 * hi) % 2 ^ 112)) 3 : Nat), .int .u64 (dgl (((lo + 18446744073709551616 * hi) % 2 ^ 112)) 4 : Nat), .int .u64 (dgl (((lo + 18446744073709551616 * hi) % 2 ^ 112)) 5 : Nat), .int .u64 (dgl (((lo + 18446744073709551616 * hi) % 2 ^ 112)) 6 : Nat), .int .u64 (dgl (((lo + 18446744073709551616 * hi) % 2 ^ 112)) 7 : Nat)]) ∧ Below w.heap.size w w' :=
  refFrac_walk 4 113 hi lo (by decide) (by decide) hh hl (fun w => prec_4 w) w

end Go.Proofs.YtpcjdllijkjdkaaGreatDoor

/- Contracts: radicandref06.Class, Neg. -/
set_option linter.unusedVariables false
set_option linter.unusedSimpArgs false
set_option maxRecDepth 8000
namespace Go.Proofs.YtpcjdllijkjdkaaGreatDoor
open Go.RowKit Plain

theorem bit_mod (a m : Nat) : a % 2 ^ (m + 1) / 2 ^ m % 2 = a / 2 ^ m % 2 := by
  rw [Nat.pow_succ, Nat.mod_mul, Nat.add_mul_div_left _ _ (Nat.two_pow_pos m), Nat.div_eq_of_lt (Nat.mod_lt _ (Nat.two_pow_pos m)), Nat.zero_add, Nat.mod_mod]

set_option maxHeartbeats 1000000 in
theorem refClass_no (f : Int) (hi lo : Nat)
    (HFI : Hid (∀ w, Calls Tryz.prog 91 #[.int .i64 f, .agg #[.int .u64 (hi : Nat), .int .u64 (lo : Nat)]] w fun e w' => e = .returned (.bool false) ∧ Below w.heap.size w w')) (w : World) : Calls Tryz.prog 67 #[.int .i64 f, .agg #[.int .u64 (hi : Nat), .int .u64 (lo : Nat)]] w fun e w' => e = .returned (.int .i64 0) ∧ Below w.heap.size w w' := by
  have HST := hide (fitSt_start hi lo w)
  go_enter Tryz.func67, Tryz.ntmps67
  go_wp2_with fail
  refine (HFI.out _).mono ?_
  rintro e w1 ⟨rfl, hb1⟩
  have HB := hide (HST.out.below hb1).bel
  clear HST hb1
  go_wp2
  go_ret
  exact ⟨rfl, HB.out⟩

set_option maxHeartbeats 2000000 in
theorem refCls_inf (f : Int) (hi lo fd r X P : Nat) (hr : r < QQ) (hX : X ≤ 20000) (hP : 2 ≤ P ∧ P ≤ 200) (h0 : r = 0) (HEQ : Hid (((fd : Int) == (2 * (X : Int) + 1)) = true))
    (HFI : Hid (∀ w, Calls Tryz.prog 91 #[.int .i64 f, .agg #[.int .u64 (hi : Nat), .int .u64 (lo : Nat)]] w fun e w' => e = .returned (.bool true) ∧ Below w.heap.size w w'))
    (HFD : Hid (∀ w, Calls Tryz.prog 92 #[.int .i64 f, .agg #[.int .u64 (hi : Nat), .int .u64 (lo : Nat)]] w fun e w' => e = .returned (.int .i64 ((fd : Nat) : Int)) ∧ Below w.heap.size w w'))
    (HFC : Hid (∀ w, Calls Tryz.prog 93 #[.int .i64 f, .agg #[.int .u64 (hi : Nat), .int .u64 (lo : Nat)]] w fun e w' => e = .returned (.agg #[.int .u64 (dgl (r) 0 : Nat), .int .u64 (dgl (r) 1 : Nat), .int .u64 (dgl (r) 2 : Nat), .int .u64 (dgl (r) 3 : Nat), .int .u64 (dgl (r) 4 : Nat), .int .u64 (dgl (r) 5 : Nat), .int .u64 (dgl (r) 6 : Nat), .int .u64 (dgl (r) 7 : Nat)]) ∧ Below w.heap.size w w'))
    (HEM : Hid (∀ w, Calls Tryz.prog 36 #[.int .i64 f] w fun e w' => e = .returned (.int .i64 (X : Nat)) ∧ w' = w)) (w : World) :
    Calls Tryz.prog 67 #[.int .i64 f, .agg #[.int .u64 (hi : Nat), .int .u64 (lo : Nat)]] w fun e w' => e = .returned (.int .i64 3) ∧ Below w.heap.size w w' := by
  have HST := hide (fitSt_start hi lo w)
  have hz := fun w => wide_eqz hr w
  rw [decide_eq_true h0] at hz
  have HX2 : Hid (IntKind.i64.wrap (2 * (X : Int)) = 2 * (X : Int)) := by unfold Hid; rw [IntKind.wrap_i64]; omega
  have HX3 : Hid (IntKind.i64.wrap (2 * (X : Int) + 1) = 2 * (X : Int) + 1) := by unfold Hid; rw [IntKind.wrap_i64]; omega
  have HP2 : Hid (IntKind.i64.wrap ((P : Int) - 2) = (P : Int) - 2) := by unfold Hid; rw [IntKind.wrap_i64]; omega
  have HX0 := hide (show (X : Int) ≤ 20000 by omega)
  have hx0 := HX0.out
  clear hr h0 hX hP
  go_enter Tryz.func67, Tryz.ntmps67
  go_wp2_with fail
  refine (HFI.out _).mono ?_
  rintro e w1 ⟨rfl, hb1⟩
  replace HST := hide (HST.out.below hb1)
  clear hb1
  have c0 := HST.out.h
  have c1 := HST.out.l
  have c2 := HST.out.lt
  go_wp2_with fail
  refine (HFD.out _).mono ?_
  rintro e w2 ⟨rfl, hb2⟩
  replace HST := hide (HST.out.below hb2)
  clear hb2 c0 c1 c2
  have c0 := HST.out.h
  have c1 := HST.out.l
  have c2 := HST.out.lt
  go_wp2_with fail
  refine (HFC.out _).mono ?_
  rintro e w3 ⟨rfl, hb3⟩
  replace HST := hide (HST.out.below hb3)
  clear hb3 c0 c1 c2
  have heq := HEQ.out
  go_wp2_with fail
  refine (HEM.out _).mono ?_
  rintro e w4 ⟨rfl, hw⟩
  subst w4
  have HB := hide HST.out.bel
  clear HST
  go_wp2
  go_ret
  exact ⟨rfl, HB.out⟩

set_option maxHeartbeats 2000000 in
theorem refCls_quiet (f : Int) (hi lo fd r X P : Nat) (hr : r < QQ) (hX : X ≤ 20000) (hP : 2 ≤ P ∧ P ≤ 200) (h0 : ¬ r = 0) (HEQ : Hid (((fd : Int) == (2 * (X : Int) + 1)) = true)) (HPR : Hid (∀ w, Calls Tryz.prog 8 #[.int .i64 f] w fun e w' => e = .returned (.int .i64 (P : Nat)) ∧ w' = w)) (HBT : Hid (∀ w, Calls Tryz.prog 71 #[.agg #[.int .u64 (hi : Nat), .int .u64 (lo : Nat)], .int .i64 ((P : Int) - 2)] w fun e w' => e = .returned (.bool true) ∧ Below w.heap.size w w'))
    (HFI : Hid (∀ w, Calls Tryz.prog 91 #[.int .i64 f, .agg #[.int .u64 (hi : Nat), .int .u64 (lo : Nat)]] w fun e w' => e = .returned (.bool true) ∧ Below w.heap.size w w'))
    (HFD : Hid (∀ w, Calls Tryz.prog 92 #[.int .i64 f, .agg #[.int .u64 (hi : Nat), .int .u64 (lo : Nat)]] w fun e w' => e = .returned (.int .i64 ((fd : Nat) : Int)) ∧ Below w.heap.size w w'))
    (HFC : Hid (∀ w, Calls Tryz.prog 93 #[.int .i64 f, .agg #[.int .u64 (hi : Nat), .int .u64 (lo : Nat)]] w fun e w' => e = .returned (.agg #[.int .u64 (dgl (r) 0 : Nat), .int .u64 (dgl (r) 1 : Nat), .int .u64 (dgl (r) 2 : Nat), .int .u64 (dgl (r) 3 : Nat), .int .u64 (dgl (r) 4 : Nat), .int .u64 (dgl (r) 5 : Nat), .int .u64 (dgl (r) 6 : Nat), .int .u64 (dgl (r) 7 : Nat)]) ∧ Below w.heap.size w w'))
    (HEM : Hid (∀ w, Calls Tryz.prog 36 #[.int .i64 f] w fun e w' => e = .returned (.int .i64 (X : Nat)) ∧ w' = w)) (w : World) :
    Calls Tryz.prog 67 #[.int .i64 f, .agg #[.int .u64 (hi : Nat), .int .u64 (lo : Nat)]] w fun e w' => e = .returned (.int .i64 2) ∧ Below w.heap.size w w' := by
  have HST := hide (fitSt_start hi lo w)
  have hz := fun w => wide_eqz hr w
  rw [decide_eq_false h0] at hz
  have HX2 : Hid (IntKind.i64.wrap (2 * (X : Int)) = 2 * (X : Int)) := by unfold Hid; rw [IntKind.wrap_i64]; omega
  have HX3 : Hid (IntKind.i64.wrap (2 * (X : Int) + 1) = 2 * (X : Int) + 1) := by unfold Hid; rw [IntKind.wrap_i64]; omega
  have HP2 : Hid (IntKind.i64.wrap ((P : Int) - 2) = (P : Int) - 2) := by unfold Hid; rw [IntKind.wrap_i64]; omega
  have HX0 := hide (show (X : Int) ≤ 20000 by omega)
  have hx0 := HX0.out
  clear hr h0 hX hP
  go_enter Tryz.func67, Tryz.ntmps67
  go_wp2_with fail
  refine (HFI.out _).mono ?_
  rintro e w1 ⟨rfl, hb1⟩
  replace HST := hide (HST.out.below hb1)
  clear hb1
  have c0 := HST.out.h
  have c1 := HST.out.l
  have c2 := HST.out.lt
  go_wp2_with fail
  refine (HFD.out _).mono ?_
  rintro e w2 ⟨rfl, hb2⟩
  replace HST := hide (HST.out.below hb2)
  clear hb2 c0 c1 c2
  have c0 := HST.out.h
  have c1 := HST.out.l
  have c2 := HST.out.lt
  go_wp2_with fail
  refine (HFC.out _).mono ?_
  rintro e w3 ⟨rfl, hb3⟩
  replace HST := hide (HST.out.below hb3)
  clear hb3 c0 c1 c2
  have heq := HEQ.out
  go_wp2_with fail
  refine (HEM.out _).mono ?_
  rintro e w4 ⟨rfl, hw⟩
  subst w4
  go_upto_region 7 with fail
  refine wp_gen (fun W => FitSt hi lo w W) HST.out ?_
  clear HST hz hx0 heq
  rintro W1 h1
  refine wp_region_grow 13 [(30, .val (.int .i64 (fd : Nat))), (31, .val (.int .i64 f)), (32, .val (.int .i64 (X : Nat))), (33, .val (.int .i64 (2 * (X : Int)))), (34, .val (.int .i64 (2 * (X : Int) + 1))), (35, .val (.bool true)), (36, .val (.bool true)), (37, .val (.agg #[.int .u64 (hi : Nat), .int .u64 (lo : Nat)])), (38, .val (.int .i64 f)), (39, .val (.int .i64 (P : Nat))), (40, .val (.int .i64 ((P : Int) - 2))), (41, .val (.bool true)), (42, .val (.bool true))]
    (fun W => FitSt hi lo w W) mixedOk (by kernel_rfl) (by kernel_rfl) (h1.below (Below.refl _ _).drew) (fun W W' h hb => h.below hb) ?_ ?_
  · refine gSt (gStep_run rfl (gRun_move 5 30 (.inl rfl) rfl (by decide +kernel) (fun v w h => h))) ?_
    refine gSt (gStep_run rfl (gRun_move 0 31 (.inl rfl) rfl (by decide +kernel) (fun v w h => h))) ?_
    refine gSt (gStep_run rfl ?_) ?_
    · intro ρ W hC hc hf hL
      have e31 : ρ (.tmp 31) = .int .i64 f := hL 31 (by decide +kernel)
      simp [go_sem, hc, hf, e31]
      refine (HEM.out W).mono ?_
      rintro e w' ⟨rfl, hb⟩
      exact ⟨_, rfl, by first | exact hb | (subst hb; exact Below.refl _ _), rfl⟩
    refine gSt (gStep_run rfl ?_) ?_
    · intro ρ W hC hc hf hL
      have e32 : ρ (.tmp 32) = .int .i64 (X : Nat) := hL 32 (by decide +kernel)
      have hl := HX2.out
      simp [go_sem, hc, hf, e32, hl]
      exact ⟨Below.refl _ _, rfl⟩
    refine gSt (gStep_run rfl ?_) ?_
    · intro ρ W hC hc hf hL
      have e33 : ρ (.tmp 33) = .int .i64 (2 * (X : Int)) := hL 33 (by decide +kernel)
      have hl := HX3.out
      simp [go_sem, hc, hf, e33, hl]
      exact ⟨Below.refl _ _, rfl⟩
    refine gSt (gStep_run rfl ?_) ?_
    · intro ρ W hC hc hf hL
      have e30 : ρ (.tmp 30) = .int .i64 (fd : Nat) := hL 30 (by decide +kernel)
      have e34 : ρ (.tmp 34) = .int .i64 (2 * (X : Int) + 1) := hL 34 (by decide +kernel)
      have hl := HEQ.out
      simp [go_sem, hc, hf, e30, e34, hl]
      exact ⟨Below.refl _ _, rfl⟩
    refine gSt (gStep_run rfl (gRun_move 35 36 (.inl rfl) rfl (by decide +kernel) (fun v w h => h))) ?_
    refine gSt (gStep_on 6 36 true rfl rfl (by decide +kernel) (fun v w h => h) ?_) ?_
    · intro ρ W hC hc hf hL
      have e3 : ρ (.tmp 3) = .pointer (some ⟨w.heap.size, 0, none⟩) := hL 3 (by decide +kernel)
      have l0 := hC.h
      have l1 := hC.l
      simp [go_sem, hc, hf, e3, l0, l1]
      exact ⟨Below.refl _ _, rfl⟩
    refine gSt (gStep_on 6 36 true rfl rfl (by decide +kernel) (fun v w h => h) (gRun_move 0 38 (.inl rfl) rfl (by decide +kernel) (fun v w h => h))) ?_
    refine gSt (gStep_on 6 36 true rfl rfl (by decide +kernel) (fun v w h => h) ?_) ?_
    · intro ρ W hC hc hf hL
      have e38 : ρ (.tmp 38) = .int .i64 f := hL 38 (by decide +kernel)
      simp [go_sem, hc, hf, e38]
      refine (HPR.out W).mono ?_
      rintro e w' ⟨rfl, hb⟩
      exact ⟨_, rfl, by first | exact hb | (subst hb; exact Below.refl _ _), rfl⟩
    refine gSt (gStep_on 6 36 true rfl rfl (by decide +kernel) (fun v w h => h) ?_) ?_
    · intro ρ W hC hc hf hL
      have e39 : ρ (.tmp 39) = .int .i64 (P : Nat) := hL 39 (by decide +kernel)
      have hl := HP2.out
      simp [go_sem, hc, hf, e39, hl]
      exact ⟨Below.refl _ _, rfl⟩
    refine gSt (gStep_on 6 36 true rfl rfl (by decide +kernel) (fun v w h => h) ?_) ?_
    · intro ρ W hC hc hf hL
      have e37 : ρ (.tmp 37) = .agg #[.int .u64 (hi : Nat), .int .u64 (lo : Nat)] := hL 37 (by decide +kernel)
      have e40 : ρ (.tmp 40) = .int .i64 ((P : Int) - 2) := hL 40 (by decide +kernel)
      simp [go_sem, hc, hf, e37, e40]
      refine (HBT.out W).mono ?_
      rintro e w' ⟨rfl, hb⟩
      exact ⟨_, rfl, by first | exact hb | (subst hb; exact Below.refl _ _), rfl⟩
    refine gSt (gStep_run rfl (gRun_pickT 36 41 42 _ rfl rfl (by decide +kernel) (by decide +kernel) (fun v w h => h) (fun v w h => h))) ?_
    exact gSt0
  · intro W hC
    refine gFi 30 rfl ?_
    rintro _ rfl
    refine gFi 31 rfl ?_
    rintro _ rfl
    refine gFi 32 rfl ?_
    rintro _ rfl
    refine gFi 33 rfl ?_
    rintro _ rfl
    refine gFi 34 rfl ?_
    rintro _ rfl
    refine gFi 35 rfl ?_
    rintro _ rfl
    refine gFi 36 rfl ?_
    rintro _ rfl
    refine gFi 37 rfl ?_
    rintro _ rfl
    refine gFi 38 rfl ?_
    rintro _ rfl
    refine gFi 39 rfl ?_
    rintro _ rfl
    refine gFi 40 rfl ?_
    rintro _ rfl
    refine gFi 41 rfl ?_
    rintro _ rfl
    refine gFi 42 rfl ?_
    rintro _ rfl
    refine gFi0 ?_
    simp only [List.drop_succ_cons, List.drop_zero, Act.put, List.setIfInBounds_toArray, List.set_cons_succ, List.set_cons_zero]
    have HB := hide hC.bel
    clear hC h1
    go_wp2
    go_ret
    exact ⟨rfl, HB.out⟩

set_option maxHeartbeats 2000000 in
theorem refCls_sig (f : Int) (hi lo fd r X P : Nat) (hr : r < QQ) (hX : X ≤ 20000) (hP : 2 ≤ P ∧ P ≤ 200) (h0 : ¬ r = 0) (HEQ : Hid (((fd : Int) == (2 * (X : Int) + 1)) = true)) (HPR : Hid (∀ w, Calls Tryz.prog 8 #[.int .i64 f] w fun e w' => e = .returned (.int .i64 (P : Nat)) ∧ w' = w)) (HBT : Hid (∀ w, Calls Tryz.prog 71 #[.agg #[.int .u64 (hi : Nat), .int .u64 (lo : Nat)], .int .i64 ((P : Int) - 2)] w fun e w' => e = .returned (.bool false) ∧ Below w.heap.size w w'))
    (HFI : Hid (∀ w, Calls Tryz.prog 91 #[.int .i64 f, .agg #[.int .u64 (hi : Nat), .int .u64 (lo : Nat)]] w fun e w' => e = .returned (.bool true) ∧ Below w.heap.size w w'))
    (HFD : Hid (∀ w, Calls Tryz.prog 92 #[.int .i64 f, .agg #[.int .u64 (hi : Nat), .int .u64 (lo : Nat)]] w fun e w' => e = .returned (.int .i64 ((fd : Nat) : Int)) ∧ Below w.heap.size w w'))
    (HFC : Hid (∀ w, Calls Tryz.prog 93 #[.int .i64 f, .agg #[.int .u64 (hi : Nat), .int .u64 (lo : Nat)]] w fun e w' => e = .returned (.agg #[.int .u64 (dgl (r) 0 : Nat), .int .u64 (dgl (r) 1 : Nat), .int .u64 (dgl (r) 2 : Nat), .int .u64 (dgl (r) 3 : Nat), .int .u64 (dgl (r) 4 : Nat), .int .u64 (dgl (r) 5 : Nat), .int .u64 (dgl (r) 6 : Nat), .int .u64 (dgl (r) 7 : Nat)]) ∧ Below w.heap.size w w'))
    (HEM : Hid (∀ w, Calls Tryz.prog 36 #[.int .i64 f] w fun e w' => e = .returned (.int .i64 (X : Nat)) ∧ w' = w)) (w : World) :
    Calls Tryz.prog 67 #[.int .i64 f, .agg #[.int .u64 (hi : Nat), .int .u64 (lo : Nat)]] w fun e w' => e = .returned (.int .i64 1) ∧ Below w.heap.size w w' := by
  have HST := hide (fitSt_start hi lo w)
  have hz := fun w => wide_eqz hr w
  rw [decide_eq_false h0] at hz
  have HX2 : Hid (IntKind.i64.wrap (2 * (X : Int)) = 2 * (X : Int)) := by unfold Hid; rw [IntKind.wrap_i64]; omega
  have HX3 : Hid (IntKind.i64.wrap (2 * (X : Int) + 1) = 2 * (X : Int) + 1) := by unfold Hid; rw [IntKind.wrap_i64]; omega
  have HP2 : Hid (IntKind.i64.wrap ((P : Int) - 2) = (P : Int) - 2) := by unfold Hid; rw [IntKind.wrap_i64]; omega
  have HX0 := hide (show (X : Int) ≤ 20000 by omega)
  have hx0 := HX0.out
  clear hr h0 hX hP
  go_enter Tryz.func67, Tryz.ntmps67
  go_wp2_with fail
  refine (HFI.out _).mono ?_
  rintro e w1 ⟨rfl, hb1⟩
  replace HST := hide (HST.out.below hb1)
  clear hb1
  have c0 := HST.out.h
  have c1 := HST.out.l
  have c2 := HST.out.lt
  go_wp2_with fail
  refine (HFD.out _).mono ?_
  rintro e w2 ⟨rfl, hb2⟩
  replace HST := hide (HST.out.below hb2)
  clear hb2 c0 c1 c2
  have c0 := HST.out.h
  have c1 := HST.out.l
  have c2 := HST.out.lt
  go_wp2_with fail
  refine (HFC.out _).mono ?_
  rintro e w3 ⟨rfl, hb3⟩
  replace HST := hide (HST.out.below hb3)
  clear hb3 c0 c1 c2
  have heq := HEQ.out
  go_wp2_with fail
  refine (HEM.out _).mono ?_
  rintro e w4 ⟨rfl, hw⟩
  subst w4
  go_upto_region 7 with fail
  refine wp_gen (fun W => FitSt hi lo w W) HST.out ?_
  clear HST hz hx0 heq
  rintro W1 h1
  refine wp_region_grow 13 [(30, .val (.int .i64 (fd : Nat))), (31, .val (.int .i64 f)), (32, .val (.int .i64 (X : Nat))), (33, .val (.int .i64 (2 * (X : Int)))), (34, .val (.int .i64 (2 * (X : Int) + 1))), (35, .val (.bool true)), (36, .val (.bool true)), (37, .val (.agg #[.int .u64 (hi : Nat), .int .u64 (lo : Nat)])), (38, .val (.int .i64 f)), (39, .val (.int .i64 (P : Nat))), (40, .val (.int .i64 ((P : Int) - 2))), (41, .val (.bool false)), (42, .val (.bool false))]
    (fun W => FitSt hi lo w W) mixedOk (by kernel_rfl) (by kernel_rfl) (h1.below (Below.refl _ _).drew) (fun W W' h hb => h.below hb) ?_ ?_
  · refine gSt (gStep_run rfl (gRun_move 5 30 (.inl rfl) rfl (by decide +kernel) (fun v w h => h))) ?_
    refine gSt (gStep_run rfl (gRun_move 0 31 (.inl rfl) rfl (by decide +kernel) (fun v w h => h))) ?_
    refine gSt (gStep_run rfl ?_) ?_
    · intro ρ W hC hc hf hL
      have e31 : ρ (.tmp 31) = .int .i64 f := hL 31 (by decide +kernel)
      simp [go_sem, hc, hf, e31]
      refine (HEM.out W).mono ?_
      rintro e w' ⟨rfl, hb⟩
      exact ⟨_, rfl, by first | exact hb | (subst hb; exact Below.refl _ _), rfl⟩
    refine gSt (gStep_run rfl ?_) ?_
    · intro ρ W hC hc hf hL
      have e32 : ρ (.tmp 32) = .int .i64 (X : Nat) := hL 32 (by decide +kernel)
      have hl := HX2.out
      simp [go_sem, hc, hf, e32, hl]
      exact ⟨Below.refl _ _, rfl⟩
    refine gSt (gStep_run rfl ?_) ?_
    · intro ρ W hC hc hf hL
      have e33 : ρ (.tmp 33) = .int .i64 (2 * (X : Int)) := hL 33 (by decide +kernel)
      have hl := HX3.out
      simp [go_sem, hc, hf, e33, hl]
      exact ⟨Below.refl _ _, rfl⟩
    refine gSt (gStep_run rfl ?_) ?_
    · intro ρ W hC hc hf hL
      have e30 : ρ (.tmp 30) = .int .i64 (fd : Nat) := hL 30 (by decide +kernel)
      have e34 : ρ (.tmp 34) = .int .i64 (2 * (X : Int) + 1) := hL 34 (by decide +kernel)
      have hl := HEQ.out
      simp [go_sem, hc, hf, e30, e34, hl]
      exact ⟨Below.refl _ _, rfl⟩
    refine gSt (gStep_run rfl (gRun_move 35 36 (.inl rfl) rfl (by decide +kernel) (fun v w h => h))) ?_
    refine gSt (gStep_on 6 36 true rfl rfl (by decide +kernel) (fun v w h => h) ?_) ?_
    · intro ρ W hC hc hf hL
      have e3 : ρ (.tmp 3) = .pointer (some ⟨w.heap.size, 0, none⟩) := hL 3 (by decide +kernel)
      have l0 := hC.h
      have l1 := hC.l
      simp [go_sem, hc, hf, e3, l0, l1]
      exact ⟨Below.refl _ _, rfl⟩
    refine gSt (gStep_on 6 36 true rfl rfl (by decide +kernel) (fun v w h => h) (gRun_move 0 38 (.inl rfl) rfl (by decide +kernel) (fun v w h => h))) ?_
    refine gSt (gStep_on 6 36 true rfl rfl (by decide +kernel) (fun v w h => h) ?_) ?_
    · intro ρ W hC hc hf hL
      have e38 : ρ (.tmp 38) = .int .i64 f := hL 38 (by decide +kernel)
      simp [go_sem, hc, hf, e38]
      refine (HPR.out W).mono ?_
      rintro e w' ⟨rfl, hb⟩
      exact ⟨_, rfl, by first | exact hb | (subst hb; exact Below.refl _ _), rfl⟩
    refine gSt (gStep_on 6 36 true rfl rfl (by decide +kernel) (fun v w h => h) ?_) ?_
    · intro ρ W hC hc hf hL
      have e39 : ρ (.tmp 39) = .int .i64 (P : Nat) := hL 39 (by decide +kernel)
      have hl := HP2.out
      simp [go_sem, hc, hf, e39, hl]
      exact ⟨Below.refl _ _, rfl⟩
    refine gSt (gStep_on 6 36 true rfl rfl (by decide +kernel) (fun v w h => h) ?_) ?_
    · intro ρ W hC hc hf hL
      have e37 : ρ (.tmp 37) = .agg #[.int .u64 (hi : Nat), .int .u64 (lo : Nat)] := hL 37 (by decide +kernel)
      have e40 : ρ (.tmp 40) = .int .i64 ((P : Int) - 2) := hL 40 (by decide +kernel)
      simp [go_sem, hc, hf, e37, e40]
      refine (HBT.out W).mono ?_
      rintro e w' ⟨rfl, hb⟩
      exact ⟨_, rfl, by first | exact hb | (subst hb; exact Below.refl _ _), rfl⟩
    refine gSt (gStep_run rfl (gRun_pickT 36 41 42 _ rfl rfl (by decide +kernel) (by decide +kernel) (fun v w h => h) (fun v w h => h))) ?_
    exact gSt0
  · intro W hC
    refine gFi 30 rfl ?_
    rintro _ rfl
    refine gFi 31 rfl ?_
    rintro _ rfl
    refine gFi 32 rfl ?_
    rintro _ rfl
    refine gFi 33 rfl ?_
    rintro _ rfl
    refine gFi 34 rfl ?_
    rintro _ rfl
    refine gFi 35 rfl ?_
    rintro _ rfl
    refine gFi 36 rfl ?_
    rintro _ rfl
    refine gFi 37 rfl ?_
    rintro _ rfl
    refine gFi 38 rfl ?_
    rintro _ rfl
    refine gFi 39 rfl ?_
    rintro _ rfl
    refine gFi 40 rfl ?_
    rintro _ rfl
    refine gFi 41 rfl ?_
    rintro _ rfl
    refine gFi 42 rfl ?_
    rintro _ rfl
    refine gFi0 ?_
    simp only [List.drop_succ_cons, List.drop_zero, Act.put, List.setIfInBounds_toArray, List.set_cons_succ, List.set_cons_zero]
    have HB := hide hC.bel
    clear hC h1
    have heq := HEQ.out
    have hx0 := HX0.out
    go_wp2_with fail
    refine (HEM.out _).mono ?_
    rintro e w9 ⟨rfl, hw⟩
    subst w9
    go_wp2
    go_ret
    exact ⟨rfl, HB.out⟩

set_option maxHeartbeats 2000000 in
theorem refCls_norm (f : Int) (hi lo fd r X P : Nat) (hr : r < QQ) (hX : X ≤ 20000) (hP : 2 ≤ P ∧ P ≤ 200) (h0 : ¬ r = 0) (HF : Hid (decide ((0 : Int) < (fd : Int)) = true)) (HEQ : Hid (((fd : Int) == (2 * (X : Int) + 1)) = false))
    (HFI : Hid (∀ w, Calls Tryz.prog 91 #[.int .i64 f, .agg #[.int .u64 (hi : Nat), .int .u64 (lo : Nat)]] w fun e w' => e = .returned (.bool true) ∧ Below w.heap.size w w'))
    (HFD : Hid (∀ w, Calls Tryz.prog 92 #[.int .i64 f, .agg #[.int .u64 (hi : Nat), .int .u64 (lo : Nat)]] w fun e w' => e = .returned (.int .i64 ((fd : Nat) : Int)) ∧ Below w.heap.size w w'))
    (HFC : Hid (∀ w, Calls Tryz.prog 93 #[.int .i64 f, .agg #[.int .u64 (hi : Nat), .int .u64 (lo : Nat)]] w fun e w' => e = .returned (.agg #[.int .u64 (dgl (r) 0 : Nat), .int .u64 (dgl (r) 1 : Nat), .int .u64 (dgl (r) 2 : Nat), .int .u64 (dgl (r) 3 : Nat), .int .u64 (dgl (r) 4 : Nat), .int .u64 (dgl (r) 5 : Nat), .int .u64 (dgl (r) 6 : Nat), .int .u64 (dgl (r) 7 : Nat)]) ∧ Below w.heap.size w w'))
    (HEM : Hid (∀ w, Calls Tryz.prog 36 #[.int .i64 f] w fun e w' => e = .returned (.int .i64 (X : Nat)) ∧ w' = w)) (w : World) :
    Calls Tryz.prog 67 #[.int .i64 f, .agg #[.int .u64 (hi : Nat), .int .u64 (lo : Nat)]] w fun e w' => e = .returned (.int .i64 4) ∧ Below w.heap.size w w' := by
  have HST := hide (fitSt_start hi lo w)
  have hz := fun w => wide_eqz hr w
  rw [decide_eq_false h0] at hz
  have HX2 : Hid (IntKind.i64.wrap (2 * (X : Int)) = 2 * (X : Int)) := by unfold Hid; rw [IntKind.wrap_i64]; omega
  have HX3 : Hid (IntKind.i64.wrap (2 * (X : Int) + 1) = 2 * (X : Int) + 1) := by unfold Hid; rw [IntKind.wrap_i64]; omega
  have HP2 : Hid (IntKind.i64.wrap ((P : Int) - 2) = (P : Int) - 2) := by unfold Hid; rw [IntKind.wrap_i64]; omega
  have HX0 := hide (show (X : Int) ≤ 20000 by omega)
  have hx0 := HX0.out
  clear hr h0 hX hP
  go_enter Tryz.func67, Tryz.ntmps67
  go_wp2_with fail
  refine (HFI.out _).mono ?_
  rintro e w1 ⟨rfl, hb1⟩
  replace HST := hide (HST.out.below hb1)
  clear hb1
  have c0 := HST.out.h
  have c1 := HST.out.l
  have c2 := HST.out.lt
  go_wp2_with fail
  refine (HFD.out _).mono ?_
  rintro e w2 ⟨rfl, hb2⟩
  replace HST := hide (HST.out.below hb2)
  clear hb2 c0 c1 c2
  have c0 := HST.out.h
  have c1 := HST.out.l
  have c2 := HST.out.lt
  go_wp2_with fail
  refine (HFC.out _).mono ?_
  rintro e w3 ⟨rfl, hb3⟩
  replace HST := hide (HST.out.below hb3)
  clear hb3 c0 c1 c2
  have heq := HEQ.out
  go_wp2_with fail
  refine (HEM.out _).mono ?_
  rintro e w4 ⟨rfl, hw⟩
  subst w4
  go_upto_region 7 with fail
  refine wp_gen (fun W => FitSt hi lo w W) HST.out ?_
  clear HST hz hx0 heq
  rintro W1 h1
  refine wp_region_grow 13 [(30, .val (.int .i64 (fd : Nat))), (31, .val (.int .i64 f)), (32, .val (.int .i64 (X : Nat))), (33, .val (.int .i64 (2 * (X : Int)))), (34, .val (.int .i64 (2 * (X : Int) + 1))), (35, .val (.bool false)), (36, .val (.bool false)), (37, .val (undef)), (38, .val (undef)), (39, .val (undef)), (40, .val (undef)), (41, .val (undef)), (42, .val (.bool false))]
    (fun W => FitSt hi lo w W) mixedOk (by kernel_rfl) (by kernel_rfl) (h1.below (Below.refl _ _).drew) (fun W W' h hb => h.below hb) ?_ ?_
  · refine gSt (gStep_run rfl (gRun_move 5 30 (.inl rfl) rfl (by decide +kernel) (fun v w h => h))) ?_
    refine gSt (gStep_run rfl (gRun_move 0 31 (.inl rfl) rfl (by decide +kernel) (fun v w h => h))) ?_
    refine gSt (gStep_run rfl ?_) ?_
    · intro ρ W hC hc hf hL
      have e31 : ρ (.tmp 31) = .int .i64 f := hL 31 (by decide +kernel)
      simp [go_sem, hc, hf, e31]
      refine (HEM.out W).mono ?_
      rintro e w' ⟨rfl, hb⟩
      exact ⟨_, rfl, by first | exact hb | (subst hb; exact Below.refl _ _), rfl⟩
    refine gSt (gStep_run rfl ?_) ?_
    · intro ρ W hC hc hf hL
      have e32 : ρ (.tmp 32) = .int .i64 (X : Nat) := hL 32 (by decide +kernel)
      have hl := HX2.out
      simp [go_sem, hc, hf, e32, hl]
      exact ⟨Below.refl _ _, rfl⟩
    refine gSt (gStep_run rfl ?_) ?_
    · intro ρ W hC hc hf hL
      have e33 : ρ (.tmp 33) = .int .i64 (2 * (X : Int)) := hL 33 (by decide +kernel)
      have hl := HX3.out
      simp [go_sem, hc, hf, e33, hl]
      exact ⟨Below.refl _ _, rfl⟩
    refine gSt (gStep_run rfl ?_) ?_
    · intro ρ W hC hc hf hL
      have e30 : ρ (.tmp 30) = .int .i64 (fd : Nat) := hL 30 (by decide +kernel)
      have e34 : ρ (.tmp 34) = .int .i64 (2 * (X : Int) + 1) := hL 34 (by decide +kernel)
      have hl := HEQ.out
      simp [go_sem, hc, hf, e30, e34, hl]
      exact ⟨Below.refl _ _, rfl⟩
    refine gSt (gStep_run rfl (gRun_move 35 36 (.inl rfl) rfl (by decide +kernel) (fun v w h => h))) ?_
    refine gSt (gStep_off 6 36 true rfl rfl (by decide +kernel) (fun v w h => h) (fun w => rfl)) ?_
    refine gSt (gStep_off 6 36 true rfl rfl (by decide +kernel) (fun v w h => h) (fun w => rfl)) ?_
    refine gSt (gStep_off 6 36 true rfl rfl (by decide +kernel) (fun v w h => h) (fun w => rfl)) ?_
    refine gSt (gStep_off 6 36 true rfl rfl (by decide +kernel) (fun v w h => h) (fun w => rfl)) ?_
    refine gSt (gStep_off 6 36 true rfl rfl (by decide +kernel) (fun v w h => h) (fun w => rfl)) ?_
    refine gSt (gStep_run rfl (gRun_pickF 36 42 _ _ rfl rfl (by decide +kernel) (fun v w h => h) (fun w => rfl))) ?_
    exact gSt0
  · intro W hC
    refine gFi 30 rfl ?_
    rintro _ rfl
    refine gFi 31 rfl ?_
    rintro _ rfl
    refine gFi 32 rfl ?_
    rintro _ rfl
    refine gFi 33 rfl ?_
    rintro _ rfl
    refine gFi 34 rfl ?_
    rintro _ rfl
    refine gFi 35 rfl ?_
    rintro _ rfl
    refine gFi 36 rfl ?_
    rintro _ rfl
    refine gFi 37 rfl ?_
    rintro _ rfl
    refine gFi 38 rfl ?_
    rintro _ rfl
    refine gFi 39 rfl ?_
    rintro _ rfl
    refine gFi 40 rfl ?_
    rintro _ rfl
    refine gFi 41 rfl ?_
    rintro _ rfl
    refine gFi 42 rfl ?_
    rintro _ rfl
    refine gFi0 ?_
    simp only [List.drop_succ_cons, List.drop_zero, Act.put, List.setIfInBounds_toArray, List.set_cons_succ, List.set_cons_zero]
    have HB := hide hC.bel
    clear hC h1
    have heq := HEQ.out
    have hx0 := HX0.out
    have hf : (0 : Int) < (fd : Int) := of_decide_eq_true HF.out
    go_wp2_with fail
    refine (HEM.out _).mono ?_
    rintro e w9 ⟨rfl, hw⟩
    subst w9
    go_wp2
    go_ret
    exact ⟨rfl, HB.out⟩

set_option maxHeartbeats 2000000 in
theorem refCls_norm0 (f : Int) (hi lo fd r X P : Nat) (hr : r < QQ) (hX : X ≤ 20000) (hP : 2 ≤ P ∧ P ≤ 200) (h0 : r = 0) (HF : Hid (decide ((0 : Int) < (fd : Int)) = true)) (HEQ : Hid (((fd : Int) == (2 * (X : Int) + 1)) = false))
    (HFI : Hid (∀ w, Calls Tryz.prog 91 #[.int .i64 f, .agg #[.int .u64 (hi : Nat), .int .u64 (lo : Nat)]] w fun e w' => e = .returned (.bool true) ∧ Below w.heap.size w w'))
    (HFD : Hid (∀ w, Calls Tryz.prog 92 #[.int .i64 f, .agg #[.int .u64 (hi : Nat), .int .u64 (lo : Nat)]] w fun e w' => e = .returned (.int .i64 ((fd : Nat) : Int)) ∧ Below w.heap.size w w'))
    (HFC : Hid (∀ w, Calls Tryz.prog 93 #[.int .i64 f, .agg #[.int .u64 (hi : Nat), .int .u64 (lo : Nat)]] w fun e w' => e = .returned (.agg #[.int .u64 (dgl (r) 0 : Nat), .int .u64 (dgl (r) 1 : Nat), .int .u64 (dgl (r) 2 : Nat), .int .u64 (dgl (r) 3 : Nat), .int .u64 (dgl (r) 4 : Nat), .int .u64 (dgl (r) 5 : Nat), .int .u64 (dgl (r) 6 : Nat), .int .u64 (dgl (r) 7 : Nat)]) ∧ Below w.heap.size w w'))
    (HEM : Hid (∀ w, Calls Tryz.prog 36 #[.int .i64 f] w fun e w' => e = .returned (.int .i64 (X : Nat)) ∧ w' = w)) (w : World) :
    Calls Tryz.prog 67 #[.int .i64 f, .agg #[.int .u64 (hi : Nat), .int .u64 (lo : Nat)]] w fun e w' => e = .returned (.int .i64 4) ∧ Below w.heap.size w w' := by
  have HST := hide (fitSt_start hi lo w)
  have hz := fun w => wide_eqz hr w
  rw [decide_eq_true h0] at hz
  have HX2 : Hid (IntKind.i64.wrap (2 * (X : Int)) = 2 * (X : Int)) := by unfold Hid; rw [IntKind.wrap_i64]; omega
  have HX3 : Hid (IntKind.i64.wrap (2 * (X : Int) + 1) = 2 * (X : Int) + 1) := by unfold Hid; rw [IntKind.wrap_i64]; omega
  have HP2 : Hid (IntKind.i64.wrap ((P : Int) - 2) = (P : Int) - 2) := by unfold Hid; rw [IntKind.wrap_i64]; omega
  have HX0 := hide (show (X : Int) ≤ 20000 by omega)
  have hx0 := HX0.out
  clear hr h0 hX hP
  go_enter Tryz.func67, Tryz.ntmps67
  go_wp2_with fail
  refine (HFI.out _).mono ?_
  rintro e w1 ⟨rfl, hb1⟩
  replace HST := hide (HST.out.below hb1)
  clear hb1
  have c0 := HST.out.h
  have c1 := HST.out.l
  have c2 := HST.out.lt
  go_wp2_with fail
  refine (HFD.out _).mono ?_
  rintro e w2 ⟨rfl, hb2⟩
  replace HST := hide (HST.out.below hb2)
  clear hb2 c0 c1 c2
  have c0 := HST.out.h
  have c1 := HST.out.l
  have c2 := HST.out.lt
  go_wp2_with fail
  refine (HFC.out _).mono ?_
  rintro e w3 ⟨rfl, hb3⟩
  replace HST := hide (HST.out.below hb3)
  clear hb3 c0 c1 c2
  have heq := HEQ.out
  go_wp2_with fail
  refine (HEM.out _).mono ?_
  rintro e w4 ⟨rfl, hw⟩
  subst w4
  go_upto_region 7 with fail
  refine wp_gen (fun W => FitSt hi lo w W) HST.out ?_
  clear HST hz hx0 heq
  rintro W1 h1
  refine wp_region_grow 13 [(30, .val (.int .i64 (fd : Nat))), (31, .val (.int .i64 f)), (32, .val (.int .i64 (X : Nat))), (33, .val (.int .i64 (2 * (X : Int)))), (34, .val (.int .i64 (2 * (X : Int) + 1))), (35, .val (.bool false)), (36, .val (.bool false)), (37, .val (undef)), (38, .val (undef)), (39, .val (undef)), (40, .val (undef)), (41, .val (undef)), (42, .val (.bool false))]
    (fun W => FitSt hi lo w W) mixedOk (by kernel_rfl) (by kernel_rfl) (h1.below (Below.refl _ _).drew) (fun W W' h hb => h.below hb) ?_ ?_
  · refine gSt (gStep_run rfl (gRun_move 5 30 (.inl rfl) rfl (by decide +kernel) (fun v w h => h))) ?_
    refine gSt (gStep_run rfl (gRun_move 0 31 (.inl rfl) rfl (by decide +kernel) (fun v w h => h))) ?_
    refine gSt (gStep_run rfl ?_) ?_
    · intro ρ W hC hc hf hL
      have e31 : ρ (.tmp 31) = .int .i64 f := hL 31 (by decide +kernel)
      simp [go_sem, hc, hf, e31]
      refine (HEM.out W).mono ?_
      rintro e w' ⟨rfl, hb⟩
      exact ⟨_, rfl, by first | exact hb | (subst hb; exact Below.refl _ _), rfl⟩
    refine gSt (gStep_run rfl ?_) ?_
    · intro ρ W hC hc hf hL
      have e32 : ρ (.tmp 32) = .int .i64 (X : Nat) := hL 32 (by decide +kernel)
      have hl := HX2.out
      simp [go_sem, hc, hf, e32, hl]
      exact ⟨Below.refl _ _, rfl⟩
    refine gSt (gStep_run rfl ?_) ?_
    · intro ρ W hC hc hf hL
      have e33 : ρ (.tmp 33) = .int .i64 (2 * (X : Int)) := hL 33 (by decide +kernel)
      have hl := HX3.out
      simp [go_sem, hc, hf, e33, hl]
      exact ⟨Below.refl _ _, rfl⟩
    refine gSt (gStep_run rfl ?_) ?_
    · intro ρ W hC hc hf hL
      have e30 : ρ (.tmp 30) = .int .i64 (fd : Nat) := hL 30 (by decide +kernel)
      have e34 : ρ (.tmp 34) = .int .i64 (2 * (X : Int) + 1) := hL 34 (by decide +kernel)
      have hl := HEQ.out
      simp [go_sem, hc, hf, e30, e34, hl]
      exact ⟨Below.refl _ _, rfl⟩
    refine gSt (gStep_run rfl (gRun_move 35 36 (.inl rfl) rfl (by decide +kernel) (fun v w h => h))) ?_
    refine gSt (gStep_off 6 36 true rfl rfl (by decide +kernel) (fun v w h => h) (fun w => rfl)) ?_
    refine gSt (gStep_off 6 36 true rfl rfl (by decide +kernel) (fun v w h => h) (fun w => rfl)) ?_
    refine gSt (gStep_off 6 36 true rfl rfl (by decide +kernel) (fun v w h => h) (fun w => rfl)) ?_
    refine gSt (gStep_off 6 36 true rfl rfl (by decide +kernel) (fun v w h => h) (fun w => rfl)) ?_
    refine gSt (gStep_off 6 36 true rfl rfl (by decide +kernel) (fun v w h => h) (fun w => rfl)) ?_
    refine gSt (gStep_run rfl (gRun_pickF 36 42 _ _ rfl rfl (by decide +kernel) (fun v w h => h) (fun w => rfl))) ?_
    exact gSt0
  · intro W hC
    refine gFi 30 rfl ?_
    rintro _ rfl
    refine gFi 31 rfl ?_
    rintro _ rfl
    refine gFi 32 rfl ?_
    rintro _ rfl
    refine gFi 33 rfl ?_
    rintro _ rfl
    refine gFi 34 rfl ?_
    rintro _ rfl
    refine gFi 35 rfl ?_
    rintro _ rfl
    refine gFi 36 rfl ?_
    rintro _ rfl
    refine gFi 37 rfl ?_
    rintro _ rfl
    refine gFi 38 rfl ?_
    rintro _ rfl
    refine gFi 39 rfl ?_
    rintro _ rfl
    refine gFi 40 rfl ?_
    rintro _ rfl
    refine gFi 41 rfl ?_
    rintro _ rfl
    refine gFi 42 rfl ?_
    rintro _ rfl
    refine gFi0 ?_
    simp only [List.drop_succ_cons, List.drop_zero, Act.put, List.setIfInBounds_toArray, List.set_cons_succ, List.set_cons_zero]
    have HB := hide hC.bel
    clear hC h1
    have heq := HEQ.out
    have hx0 := HX0.out
    have hf : (0 : Int) < (fd : Int) := of_decide_eq_true HF.out
    go_wp2_with fail
    refine (HEM.out _).mono ?_
    rintro e w9 ⟨rfl, hw⟩
    subst w9
    go_wp2
    go_ret
    exact ⟨rfl, HB.out⟩

set_option maxHeartbeats 2000000 in
theorem refCls_sub (f : Int) (hi lo fd r X P : Nat) (hr : r < QQ) (hX : X ≤ 20000) (hP : 2 ≤ P ∧ P ≤ 200) (h0 : ¬ r = 0) (HF : Hid (decide ((0 : Int) < (fd : Int)) = false)) (HEQ : Hid (((fd : Int) == (2 * (X : Int) + 1)) = false))
    (HFI : Hid (∀ w, Calls Tryz.prog 91 #[.int .i64 f, .agg #[.int .u64 (hi : Nat), .int .u64 (lo : Nat)]] w fun e w' => e = .returned (.bool true) ∧ Below w.heap.size w w'))
    (HFD : Hid (∀ w, Calls Tryz.prog 92 #[.int .i64 f, .agg #[.int .u64 (hi : Nat), .int .u64 (lo : Nat)]] w fun e w' => e = .returned (.int .i64 ((fd : Nat) : Int)) ∧ Below w.heap.size w w'))
    (HFC : Hid (∀ w, Calls Tryz.prog 93 #[.int .i64 f, .agg #[.int .u64 (hi : Nat), .int .u64 (lo : Nat)]] w fun e w' => e = .returned (.agg #[.int .u64 (dgl (r) 0 : Nat), .int .u64 (dgl (r) 1 : Nat), .int .u64 (dgl (r) 2 : Nat), .int .u64 (dgl (r) 3 : Nat), .int .u64 (dgl (r) 4 : Nat), .int .u64 (dgl (r) 5 : Nat), .int .u64 (dgl (r) 6 : Nat), .int .u64 (dgl (r) 7 : Nat)]) ∧ Below w.heap.size w w'))
    (HEM : Hid (∀ w, Calls Tryz.prog 36 #[.int .i64 f] w fun e w' => e = .returned (.int .i64 (X : Nat)) ∧ w' = w)) (w : World) :
    Calls Tryz.prog 67 #[.int .i64 f, .agg #[.int .u64 (hi : Nat), .int .u64 (lo : Nat)]] w fun e w' => e = .returned (.int .i64 5) ∧ Below w.heap.size w w' := by
  have HST := hide (fitSt_start hi lo w)
  have hz := fun w => wide_eqz hr w
  rw [decide_eq_false h0] at hz
  have HX2 : Hid (IntKind.i64.wrap (2 * (X : Int)) = 2 * (X : Int)) := by unfold Hid; rw [IntKind.wrap_i64]; omega
  have HX3 : Hid (IntKind.i64.wrap (2 * (X : Int) + 1) = 2 * (X : Int) + 1) := by unfold Hid; rw [IntKind.wrap_i64]; omega
  have HP2 : Hid (IntKind.i64.wrap ((P : Int) - 2) = (P : Int) - 2) := by unfold Hid; rw [IntKind.wrap_i64]; omega
  have HX0 := hide (show (X : Int) ≤ 20000 by omega)
  have hx0 := HX0.out
  clear hr h0 hX hP
  go_enter Tryz.func67, Tryz.ntmps67
  go_wp2_with fail
  refine (HFI.out _).mono ?_
  rintro e w1 ⟨rfl, hb1⟩
  replace HST := hide (HST.out.below hb1)
  clear hb1
  have c0 := HST.out.h
  have c1 := HST.out.l
  have c2 := HST.out.lt
  go_wp2_with fail
  refine (HFD.out _).mono ?_
  rintro e w2 ⟨rfl, hb2⟩
  replace HST := hide (HST.out.below hb2)
  clear hb2 c0 c1 c2
  have c0 := HST.out.h
  have c1 := HST.out.l
  have c2 := HST.out.lt
  go_wp2_with fail
  refine (HFC.out _).mono ?_
  rintro e w3 ⟨rfl, hb3⟩
  replace HST := hide (HST.out.below hb3)
  clear hb3 c0 c1 c2
  have heq := HEQ.out
  go_wp2_with fail
  refine (HEM.out _).mono ?_
  rintro e w4 ⟨rfl, hw⟩
  subst w4
  go_upto_region 7 with fail
  refine wp_gen (fun W => FitSt hi lo w W) HST.out ?_
  clear HST hz hx0 heq
  rintro W1 h1
  refine wp_region_grow 13 [(30, .val (.int .i64 (fd : Nat))), (31, .val (.int .i64 f)), (32, .val (.int .i64 (X : Nat))), (33, .val (.int .i64 (2 * (X : Int)))), (34, .val (.int .i64 (2 * (X : Int) + 1))), (35, .val (.bool false)), (36, .val (.bool false)), (37, .val (undef)), (38, .val (undef)), (39, .val (undef)), (40, .val (undef)), (41, .val (undef)), (42, .val (.bool false))]
    (fun W => FitSt hi lo w W) mixedOk (by kernel_rfl) (by kernel_rfl) (h1.below (Below.refl _ _).drew) (fun W W' h hb => h.below hb) ?_ ?_
  · refine gSt (gStep_run rfl (gRun_move 5 30 (.inl rfl) rfl (by decide +kernel) (fun v w h => h))) ?_
    refine gSt (gStep_run rfl (gRun_move 0 31 (.inl rfl) rfl (by decide +kernel) (fun v w h => h))) ?_
    refine gSt (gStep_run rfl ?_) ?_
    · intro ρ W hC hc hf hL
      have e31 : ρ (.tmp 31) = .int .i64 f := hL 31 (by decide +kernel)
      simp [go_sem, hc, hf, e31]
      refine (HEM.out W).mono ?_
      rintro e w' ⟨rfl, hb⟩
      exact ⟨_, rfl, by first | exact hb | (subst hb; exact Below.refl _ _), rfl⟩
    refine gSt (gStep_run rfl ?_) ?_
    · intro ρ W hC hc hf hL
      have e32 : ρ (.tmp 32) = .int .i64 (X : Nat) := hL 32 (by decide +kernel)
      have hl := HX2.out
      simp [go_sem, hc, hf, e32, hl]
      exact ⟨Below.refl _ _, rfl⟩
    refine gSt (gStep_run rfl ?_) ?_
    · intro ρ W hC hc hf hL
      have e33 : ρ (.tmp 33) = .int .i64 (2 * (X : Int)) := hL 33 (by decide +kernel)
      have hl := HX3.out
      simp [go_sem, hc, hf, e33, hl]
      exact ⟨Below.refl _ _, rfl⟩
    refine gSt (gStep_run rfl ?_) ?_
    · intro ρ W hC hc hf hL
      have e30 : ρ (.tmp 30) = .int .i64 (fd : Nat) := hL 30 (by decide +kernel)
      have e34 : ρ (.tmp 34) = .int .i64 (2 * (X : Int) + 1) := hL 34 (by decide +kernel)
      have hl := HEQ.out
      simp [go_sem, hc, hf, e30, e34, hl]
      exact ⟨Below.refl _ _, rfl⟩
    refine gSt (gStep_run rfl (gRun_move 35 36 (.inl rfl) rfl (by decide +kernel) (fun v w h => h))) ?_
    refine gSt (gStep_off 6 36 true rfl rfl (by decide +kernel) (fun v w h => h) (fun w => rfl)) ?_
    refine gSt (gStep_off 6 36 true rfl rfl (by decide +kernel) (fun v w h => h) (fun w => rfl)) ?_
    refine gSt (gStep_off 6 36 true rfl rfl (by decide +kernel) (fun v w h => h) (fun w => rfl)) ?_
    refine gSt (gStep_off 6 36 true rfl rfl (by decide +kernel) (fun v w h => h) (fun w => rfl)) ?_
    refine gSt (gStep_off 6 36 true rfl rfl (by decide +kernel) (fun v w h => h) (fun w => rfl)) ?_
    refine gSt (gStep_run rfl (gRun_pickF 36 42 _ _ rfl rfl (by decide +kernel) (fun v w h => h) (fun w => rfl))) ?_
    exact gSt0
  · intro W hC
    refine gFi 30 rfl ?_
    rintro _ rfl
    refine gFi 31 rfl ?_
    rintro _ rfl
    refine gFi 32 rfl ?_
    rintro _ rfl
    refine gFi 33 rfl ?_
    rintro _ rfl
    refine gFi 34 rfl ?_
    rintro _ rfl
    refine gFi 35 rfl ?_
    rintro _ rfl
    refine gFi 36 rfl ?_
    rintro _ rfl
    refine gFi 37 rfl ?_
    rintro _ rfl
    refine gFi 38 rfl ?_
    rintro _ rfl
    refine gFi 39 rfl ?_
    rintro _ rfl
    refine gFi 40 rfl ?_
    rintro _ rfl
    refine gFi 41 rfl ?_
    rintro _ rfl
    refine gFi 42 rfl ?_
    rintro _ rfl
    refine gFi0 ?_
    simp only [List.drop_succ_cons, List.drop_zero, Act.put, List.setIfInBounds_toArray, List.set_cons_succ, List.set_cons_zero]
    have HB := hide hC.bel
    clear hC h1
    have heq := HEQ.out
    have hx0 := HX0.out
    have hf : ¬ (0 : Int) < (fd : Int) := of_decide_eq_false HF.out
    go_wp2_with fail
    refine (HEM.out _).mono ?_
    rintro e w9 ⟨rfl, hw⟩
    subst w9
    go_wp2
    go_ret
    exact ⟨rfl, HB.out⟩

set_option maxHeartbeats 2000000 in
theorem refCls_zero (f : Int) (hi lo fd r X P : Nat) (hr : r < QQ) (hX : X ≤ 20000) (hP : 2 ≤ P ∧ P ≤ 200) (h0 : r = 0) (HF : Hid (decide ((0 : Int) < (fd : Int)) = false)) (HEQ : Hid (((fd : Int) == (2 * (X : Int) + 1)) = false))
    (HFI : Hid (∀ w, Calls Tryz.prog 91 #[.int .i64 f, .agg #[.int .u64 (hi : Nat), .int .u64 (lo : Nat)]] w fun e w' => e = .returned (.bool true) ∧ Below w.heap.size w w'))
    (HFD : Hid (∀ w, Calls Tryz.prog 92 #[.int .i64 f, .agg #[.int .u64 (hi : Nat), .int .u64 (lo : Nat)]] w fun e w' => e = .returned (.int .i64 ((fd : Nat) : Int)) ∧ Below w.heap.size w w'))
    (HFC : Hid (∀ w, Calls Tryz.prog 93 #[.int .i64 f, .agg #[.int .u64 (hi : Nat), .int .u64 (lo : Nat)]] w fun e w' => e = .returned (.agg #[.int .u64 (dgl (r) 0 : Nat), .int .u64 (dgl (r) 1 : Nat), .int .u64 (dgl (r) 2 : Nat), .int .u64 (dgl (r) 3 : Nat), .int .u64 (dgl (r) 4 : Nat), .int .u64 (dgl (r) 5 : Nat), .int .u64 (dgl (r) 6 : Nat), .int .u64 (dgl (r) 7 : Nat)]) ∧ Below w.heap.size w w'))
    (HEM : Hid (∀ w, Calls Tryz.prog 36 #[.int .i64 f] w fun e w' => e = .returned (.int .i64 (X : Nat)) ∧ w' = w)) (w : World) :
    Calls Tryz.prog 67 #[.int .i64 f, .agg #[.int .u64 (hi : Nat), .int .u64 (lo : Nat)]] w fun e w' => e = .returned (.int .i64 6) ∧ Below w.heap.size w w' := by
  have HST := hide (fitSt_start hi lo w)
  have hz := fun w => wide_eqz hr w
  rw [decide_eq_true h0] at hz
  have HX2 : Hid (IntKind.i64.wrap (2 * (X : Int)) = 2 * (X : Int)) := by unfold Hid; rw [IntKind.wrap_i64]; omega
  have HX3 : Hid (IntKind.i64.wrap (2 * (X : Int) + 1) = 2 * (X : Int) + 1) := by unfold Hid; rw [IntKind.wrap_i64]; omega
  have HP2 : Hid (IntKind.i64.wrap ((P : Int) - 2) = (P : Int) - 2) := by unfold Hid; rw [IntKind.wrap_i64]; omega
  have HX0 := hide (show (X : Int) ≤ 20000 by omega)
  have hx0 := HX0.out
  clear hr h0 hX hP
  go_enter Tryz.func67, Tryz.ntmps67
  go_wp2_with fail
  refine (HFI.out _).mono ?_
  rintro e w1 ⟨rfl, hb1⟩
  replace HST := hide (HST.out.below hb1)
  clear hb1
  have c0 := HST.out.h
  have c1 := HST.out.l
  have c2 := HST.out.lt
  go_wp2_with fail
  refine (HFD.out _).mono ?_
  rintro e w2 ⟨rfl, hb2⟩
  replace HST := hide (HST.out.below hb2)
  clear hb2 c0 c1 c2
  have c0 := HST.out.h
  have c1 := HST.out.l
  have c2 := HST.out.lt
  go_wp2_with fail
  refine (HFC.out _).mono ?_
  rintro e w3 ⟨rfl, hb3⟩
  replace HST := hide (HST.out.below hb3)
  clear hb3 c0 c1 c2
  have heq := HEQ.out
  go_wp2_with fail
  refine (HEM.out _).mono ?_
  rintro e w4 ⟨rfl, hw⟩
  subst w4
  go_upto_region 7 with fail
  refine wp_gen (fun W => FitSt hi lo w W) HST.out ?_
  clear HST hz hx0 heq
  rintro W1 h1
  refine wp_region_grow 13 [(30, .val (.int .i64 (fd : Nat))), (31, .val (.int .i64 f)), (32, .val (.int .i64 (X : Nat))), (33, .val (.int .i64 (2 * (X : Int)))), (34, .val (.int .i64 (2 * (X : Int) + 1))), (35, .val (.bool false)), (36, .val (.bool false)), (37, .val (undef)), (38, .val (undef)), (39, .val (undef)), (40, .val (undef)), (41, .val (undef)), (42, .val (.bool false))]
    (fun W => FitSt hi lo w W) mixedOk (by kernel_rfl) (by kernel_rfl) (h1.below (Below.refl _ _).drew) (fun W W' h hb => h.below hb) ?_ ?_
  · refine gSt (gStep_run rfl (gRun_move 5 30 (.inl rfl) rfl (by decide +kernel) (fun v w h => h))) ?_
    refine gSt (gStep_run rfl (gRun_move 0 31 (.inl rfl) rfl (by decide +kernel) (fun v w h => h))) ?_
    refine gSt (gStep_run rfl ?_) ?_
    · intro ρ W hC hc hf hL
      have e31 : ρ (.tmp 31) = .int .i64 f := hL 31 (by decide +kernel)
      simp [go_sem, hc, hf, e31]
      refine (HEM.out W).mono ?_
      rintro e w' ⟨rfl, hb⟩
      exact ⟨_, rfl, by first | exact hb | (subst hb; exact Below.refl _ _), rfl⟩
    refine gSt (gStep_run rfl ?_) ?_
    · intro ρ W hC hc hf hL
      have e32 : ρ (.tmp 32) = .int .i64 (X : Nat) := hL 32 (by decide +kernel)
      have hl := HX2.out
      simp [go_sem, hc, hf, e32, hl]
      exact ⟨Below.refl _ _, rfl⟩
    refine gSt (gStep_run rfl ?_) ?_
    · intro ρ W hC hc hf hL
      have e33 : ρ (.tmp 33) = .int .i64 (2 * (X : Int)) := hL 33 (by decide +kernel)
      have hl := HX3.out
      simp [go_sem, hc, hf, e33, hl]
      exact ⟨Below.refl _ _, rfl⟩
    refine gSt (gStep_run rfl ?_) ?_
    · intro ρ W hC hc hf hL
      have e30 : ρ (.tmp 30) = .int .i64 (fd : Nat) := hL 30 (by decide +kernel)
      have e34 : ρ (.tmp 34) = .int .i64 (2 * (X : Int) + 1) := hL 34 (by decide +kernel)
      have hl := HEQ.out
      simp [go_sem, hc, hf, e30, e34, hl]
      exact ⟨Below.refl _ _, rfl⟩
    refine gSt (gStep_run rfl (gRun_move 35 36 (.inl rfl) rfl (by decide +kernel) (fun v w h => h))) ?_
    refine gSt (gStep_off 6 36 true rfl rfl (by decide +kernel) (fun v w h => h) (fun w => rfl)) ?_
    refine gSt (gStep_off 6 36 true rfl rfl (by decide +kernel) (fun v w h => h) (fun w => rfl)) ?_
    refine gSt (gStep_off 6 36 true rfl rfl (by decide +kernel) (fun v w h => h) (fun w => rfl)) ?_
    refine gSt (gStep_off 6 36 true rfl rfl (by decide +kernel) (fun v w h => h) (fun w => rfl)) ?_
    refine gSt (gStep_off 6 36 true rfl rfl (by decide +kernel) (fun v w h => h) (fun w => rfl)) ?_
    refine gSt (gStep_run rfl (gRun_pickF 36 42 _ _ rfl rfl (by decide +kernel) (fun v w h => h) (fun w => rfl))) ?_
    exact gSt0
  · intro W hC
    refine gFi 30 rfl ?_
    rintro _ rfl
    refine gFi 31 rfl ?_
    rintro _ rfl
    refine gFi 32 rfl ?_
    rintro _ rfl
    refine gFi 33 rfl ?_
    rintro _ rfl
    refine gFi 34 rfl ?_
    rintro _ rfl
    refine gFi 35 rfl ?_
    rintro _ rfl
    refine gFi 36 rfl ?_
    rintro _ rfl
    refine gFi 37 rfl ?_
    rintro _ rfl
    refine gFi 38 rfl ?_
    rintro _ rfl
    refine gFi 39 rfl ?_
    rintro _ rfl
    refine gFi 40 rfl ?_
    rintro _ rfl
    refine gFi 41 rfl ?_
    rintro _ rfl
    refine gFi 42 rfl ?_
    rintro _ rfl
    refine gFi0 ?_
    simp only [List.drop_succ_cons, List.drop_zero, Act.put, List.setIfInBounds_toArray, List.set_cons_succ, List.set_cons_zero]
    have HB := hide hC.bel
    clear hC h1
    have heq := HEQ.out
    have hx0 := HX0.out
    have hf : ¬ (0 : Int) < (fd : Int) := of_decide_eq_false HF.out
    go_wp2_with fail
    refine (HEM.out _).mono ?_
    rintro e w9 ⟨rfl, hw⟩
    subst w9
    go_wp2
    go_ret
    exact ⟨rfl, HB.out⟩

theorem refCls_1 (hi lo : Nat) (hh : hi < 18446744073709551616) (hl : lo < 18446744073709551616) (w : World) : Calls Tryz.prog 67 #[.int .i64 1, .agg #[.int .u64 (hi : Nat), .int .u64 (lo : Nat)]] w fun e w' => e = .returned (.int .i64 ((clsN 16 11 5 (lo + 18446744073709551616 * hi) : Nat) : Int)) ∧ Below w.heap.size w w' := by
  have hQ := q200
  have hq : (lo + 18446744073709551616 * hi) < QQ := by omega
  have hFI := fun w => refFits_1 hi lo hh hl w
  by_cases h : (lo + 18446744073709551616 * hi) < 2 ^ 16
  · rw [decide_eq_true h] at hFI
    have hFD := fun w => refFld_1 hi lo hh hl w
    have hFC := fun w => refFrac_1 hi lo hh hl w
    have hBT := fun w => refBit5_any hi lo 9 hh hl (by decide) ((11 : Nat) - 2) (by decide) w
    rw [← bit_mod (lo + 18446744073709551616 * hi) 9] at hBT
    rw [show clsN 16 11 5 (lo + 18446744073709551616 * hi) = clsP 11 5 ((lo + 18446744073709551616 * hi) / 2 ^ 10 % 2 ^ 5) ((lo + 18446744073709551616 * hi) % 2 ^ 10) from by unfold clsN; rw [if_pos h]]
    have hr : (lo + 18446744073709551616 * hi) % 2 ^ 10 < QQ := Nat.lt_of_le_of_lt (Nat.mod_le _ _) hq
    generalize (lo + 18446744073709551616 * hi) % 2 ^ 10 = r at *
    generalize (lo + 18446744073709551616 * hi) / 2 ^ 10 % 2 ^ 5 = fd at *
    by_cases h1 : fd = 2 ^ 5 - 1
    · have HEQ : Hid (((fd : Int) == (2 * ((15 : Nat) : Int) + 1)) = true) := by unfold Hid; rw [beq_iff_eq, h1]; decide
      by_cases h0 : r = 0
      · rw [show clsP 11 5 fd r = 3 by unfold clsP; rw [if_pos h1, if_pos h0]]
        exact refCls_inf 1 hi lo fd r 15 11 hr (by decide) (by decide) h0 HEQ hFI hFD hFC (fun w => emax_1 w) w
      · by_cases h2 : r / 2 ^ 9 % 2 = 1
        · rw [show clsP 11 5 fd r = 2 by unfold clsP; rw [if_pos h1, if_neg h0, if_pos h2]]
          rw [show (r / 2 ^ 9 % 2 == 1) = true by rw [beq_iff_eq]; exact h2] at hBT
          exact refCls_quiet 1 hi lo fd r 15 11 hr (by decide) (by decide) h0 HEQ (fun w => prec_1 w) hBT hFI hFD hFC (fun w => emax_1 w) w
        · rw [show clsP 11 5 fd r = 1 by unfold clsP; rw [if_pos h1, if_neg h0, if_neg h2]]
          rw [show (r / 2 ^ 9 % 2 == 1) = false by rw [beq_eq_false_iff_ne]; exact h2] at hBT
          exact refCls_sig 1 hi lo fd r 15 11 hr (by decide) (by decide) h0 HEQ (fun w => prec_1 w) hBT hFI hFD hFC (fun w => emax_1 w) w
    · have HEQ : Hid (((fd : Int) == (2 * ((15 : Nat) : Int) + 1)) = false) := by unfold Hid; rw [beq_eq_false_iff_ne]; omega
      by_cases hf : fd = 0
      · have HF : Hid (decide ((0 : Int) < (fd : Int)) = false) := by unfold Hid; rw [decide_eq_false_iff_not]; omega
        by_cases h0 : r = 0
        · rw [show clsP 11 5 fd r = 6 by unfold clsP; rw [if_neg h1, if_pos hf, if_pos h0]]
          exact refCls_zero 1 hi lo fd r 15 11 hr (by decide) (by decide) h0 HF HEQ hFI hFD hFC (fun w => emax_1 w) w
        · rw [show clsP 11 5 fd r = 5 by unfold clsP; rw [if_neg h1, if_pos hf, if_neg h0]]
          exact refCls_sub 1 hi lo fd r 15 11 hr (by decide) (by decide) h0 HF HEQ hFI hFD hFC (fun w => emax_1 w) w
      · have HF : Hid (decide ((0 : Int) < (fd : Int)) = true) := by unfold Hid; rw [decide_eq_true_eq]; omega
        rw [show clsP 11 5 fd r = 4 by unfold clsP; rw [if_neg h1, if_neg hf]]
        by_cases h0 : r = 0
        · exact refCls_norm0 1 hi lo fd r 15 11 hr (by decide) (by decide) h0 HF HEQ hFI hFD hFC (fun w => emax_1 w) w
        · exact refCls_norm 1 hi lo fd r 15 11 hr (by decide) (by decide) h0 HF HEQ hFI hFD hFC (fun w => emax_1 w) w
  · rw [decide_eq_false h] at hFI
    rw [show clsN 16 11 5 (lo + 18446744073709551616 * hi) = 0 from by unfold clsN; rw [if_neg h]]
    exact refClass_no 1 hi lo hFI w

theorem refCls_2 (hi lo : Nat) (hh : hi < 18446744073709551616) (hl : lo < 18446744073709551616) (w : World) : Calls Tryz.prog 67 #[.int .i64 2, .agg #[.int .u64 (hi : Nat), .int .u64 (lo : Nat)]] w fun e w' => e = .returned (.int .i64 ((clsN 32 24 8 (lo + 18446744073709551616 * hi) : Nat) : Int)) ∧ Below w.heap.size w w' := by
  have hQ := q200
  have hq : (lo + 18446744073709551616 * hi) < QQ := by omega
  have hFI := fun w => refFits_2 hi lo hh hl w
  by_cases h : (lo + 18446744073709551616 * hi) < 2 ^ 32
  · rw [decide_eq_true h] at hFI
    have hFD := fun w => refFld_2 hi lo hh hl w
    have hFC := fun w => refFrac_2 hi lo hh hl w
    have hBT := fun w => refBit5_any hi lo 22 hh hl (by decide) ((24 : Nat) - 2) (by decide) w
    rw [← bit_mod (lo + 18446744073709551616 * hi) 22] at hBT
    rw [show clsN 32 24 8 (lo + 18446744073709551616 * hi) = clsP 24 8 ((lo + 18446744073709551616 * hi) / 2 ^ 23 % 2 ^ 8) ((lo + 18446744073709551616 * hi) % 2 ^ 23) from by unfold clsN; rw [if_pos h]]
    have hr : (lo + 18446744073709551616 * hi) % 2 ^ 23 < QQ := Nat.lt_of_le_of_lt (Nat.mod_le _ _) hq
    generalize (lo + 18446744073709551616 * hi) % 2 ^ 23 = r at *
    generalize (lo + 18446744073709551616 * hi) / 2 ^ 23 % 2 ^ 8 = fd at *
    by_cases h1 : fd = 2 ^ 8 - 1
    · have HEQ : Hid (((fd : Int) == (2 * ((127 : Nat) : Int) + 1)) = true) := by unfold Hid; rw [beq_iff_eq, h1]; decide
      by_cases h0 : r = 0
      · rw [show clsP 24 8 fd r = 3 by unfold clsP; rw [if_pos h1, if_pos h0]]
        exact refCls_inf 2 hi lo fd r 127 24 hr (by decide) (by decide) h0 HEQ hFI hFD hFC (fun w => emax_2 w) w
      · by_cases h2 : r / 2 ^ 22 % 2 = 1
        · rw [show clsP 24 8 fd r = 2 by unfold clsP; rw [if_pos h1, if_neg h0, if_pos h2]]
          rw [show (r / 2 ^ 22 % 2 == 1) = true by rw [beq_iff_eq]; exact h2] at hBT
          exact refCls_quiet 2 hi lo fd r 127 24 hr (by decide) (by decide) h0 HEQ (fun w => prec_2 w) hBT hFI hFD hFC (fun w => emax_2 w) w
        · rw [show clsP 24 8 fd r = 1 by unfold clsP; rw [if_pos h1, if_neg h0, if_neg h2]]
          rw [show (r / 2 ^ 22 % 2 == 1) = false by rw [beq_eq_false_iff_ne]; exact h2] at hBT
          exact refCls_sig 2 hi lo fd r 127 24 hr (by decide) (by decide) h0 HEQ (fun w => prec_2 w) hBT hFI hFD hFC (fun w => emax_2 w) w
    · have HEQ : Hid (((fd : Int) == (2 * ((127 : Nat) : Int) + 1)) = false) := by unfold Hid; rw [beq_eq_false_iff_ne]; omega
      by_cases hf : fd = 0
      · have HF : Hid (decide ((0 : Int) < (fd : Int)) = false) := by unfold Hid; rw [decide_eq_false_iff_not]; omega
        by_cases h0 : r = 0
        · rw [show clsP 24 8 fd r = 6 by unfold clsP; rw [if_neg h1, if_pos hf, if_pos h0]]
          exact refCls_zero 2 hi lo fd r 127 24 hr (by decide) (by decide) h0 HF HEQ hFI hFD hFC (fun w => emax_2 w) w
        · rw [show clsP 24 8 fd r = 5 by unfold clsP; rw [if_neg h1, if_pos hf, if_neg h0]]
          exact refCls_sub 2 hi lo fd r 127 24 hr (by decide) (by decide) h0 HF HEQ hFI hFD hFC (fun w => emax_2 w) w
      · have HF : Hid (decide ((0 : Int) < (fd : Int)) = true) := by unfold Hid; rw [decide_eq_true_eq]; omega
        rw [show clsP 24 8 fd r = 4 by unfold clsP; rw [if_neg h1, if_neg hf]]
        by_cases h0 : r = 0
        · exact refCls_norm0 2 hi lo fd r 127 24 hr (by decide) (by decide) h0 HF HEQ hFI hFD hFC (fun w => emax_2 w) w
        · exact refCls_norm 2 hi lo fd r 127 24 hr (by decide) (by decide) h0 HF HEQ hFI hFD hFC (fun w => emax_2 w) w
  · rw [decide_eq_false h] at hFI
    rw [show clsN 32 24 8 (lo + 18446744073709551616 * hi) = 0 from by unfold clsN; rw [if_neg h]]
    exact refClass_no 2 hi lo hFI w

theorem refCls_3 (hi lo : Nat) (hh : hi < 18446744073709551616) (hl : lo < 18446744073709551616) (w : World) : Calls Tryz.prog 67 #[.int .i64 3, .agg #[.int .u64 (hi : Nat), .int .u64 (lo : Nat)]] w fun e w' => e = .returned (.int .i64 ((clsN 64 53 11 (lo + 18446744073709551616 * hi) : Nat) : Int)) ∧ Below w.heap.size w w' := by
  have hQ := q200
  have hq : (lo + 18446744073709551616 * hi) < QQ := by omega
  have hFI := fun w => refFits_3 hi lo hh hl w
  by_cases h : (lo + 18446744073709551616 * hi) < 2 ^ 64
  · rw [decide_eq_true h] at hFI
    have hFD := fun w => refFld_3 hi lo hh hl w
    have hFC := fun w => refFrac_3 hi lo hh hl w
    have hBT := fun w => refBit5_any hi lo 51 hh hl (by decide) ((53 : Nat) - 2) (by decide) w
    rw [← bit_mod (lo + 18446744073709551616 * hi) 51] at hBT
    rw [show clsN 64 53 11 (lo + 18446744073709551616 * hi) = clsP 53 11 ((lo + 18446744073709551616 * hi) / 2 ^ 52 % 2 ^ 11) ((lo + 18446744073709551616 * hi) % 2 ^ 52) from by unfold clsN; rw [if_pos h]]
    have hr : (lo + 18446744073709551616 * hi) % 2 ^ 52 < QQ := Nat.lt_of_le_of_lt (Nat.mod_le _ _) hq
    generalize (lo + 18446744073709551616 * hi) % 2 ^ 52 = r at *
    generalize (lo + 18446744073709551616 * hi) / 2 ^ 52 % 2 ^ 11 = fd at *
    by_cases h1 : fd = 2 ^ 11 - 1
    · have HEQ : Hid (((fd : Int) == (2 * ((1023 : Nat) : Int) + 1)) = true) := by unfold Hid; rw [beq_iff_eq, h1]; decide
      by_cases h0 : r = 0
      · rw [show clsP 53 11 fd r = 3 by unfold clsP; rw [if_pos h1, if_pos h0]]
        exact refCls_inf 3 hi lo fd r 1023 53 hr (by decide) (by decide) h0 HEQ hFI hFD hFC (fun w => emax_3 w) w
      · by_cases h2 : r / 2 ^ 51 % 2 = 1
        · rw [show clsP 53 11 fd r = 2 by unfold clsP; rw [if_pos h1, if_neg h0, if_pos h2]]
          rw [show (r / 2 ^ 51 % 2 == 1) = true by rw [beq_iff_eq]; exact h2] at hBT
          exact refCls_quiet 3 hi lo fd r 1023 53 hr (by decide) (by decide) h0 HEQ (fun w => prec_3 w) hBT hFI hFD hFC (fun w => emax_3 w) w
        · rw [show clsP 53 11 fd r = 1 by unfold clsP; rw [if_pos h1, if_neg h0, if_neg h2]]
          rw [show (r / 2 ^ 51 % 2 == 1) = false by rw [beq_eq_false_iff_ne]; exact h2] at hBT
          exact refCls_sig 3 hi lo fd r 1023 53 hr (by decide) (by decide) h0 HEQ (fun w => prec_3 w) hBT hFI hFD hFC (fun w => emax_3 w) w
    · have HEQ : Hid (((fd : Int) == (2 * ((1023 : Nat) : Int) + 1)) = false) := by unfold Hid; rw [beq_eq_false_iff_ne]; omega
      by_cases hf : fd = 0
      · have HF : Hid (decide ((0 : Int) < (fd : Int)) = false) := by unfold Hid; rw [decide_eq_false_iff_not]; omega
        by_cases h0 : r = 0
        · rw [show clsP 53 11 fd r = 6 by unfold clsP; rw [if_neg h1, if_pos hf, if_pos h0]]
          exact refCls_zero 3 hi lo fd r 1023 53 hr (by decide) (by decide) h0 HF HEQ hFI hFD hFC (fun w => emax_3 w) w
        · rw [show clsP 53 11 fd r = 5 by unfold clsP; rw [if_neg h1, if_pos hf, if_neg h0]]
          exact refCls_sub 3 hi lo fd r 1023 53 hr (by decide) (by decide) h0 HF HEQ hFI hFD hFC (fun w => emax_3 w) w
      · have HF : Hid (decide ((0 : Int) < (fd : Int)) = true) := by unfold Hid; rw [decide_eq_true_eq]; omega
        rw [show clsP 53 11 fd r = 4 by unfold clsP; rw [if_neg h1, if_neg hf]]
        by_cases h0 : r = 0
        · exact refCls_norm0 3 hi lo fd r 1023 53 hr (by decide) (by decide) h0 HF HEQ hFI hFD hFC (fun w => emax_3 w) w
        · exact refCls_norm 3 hi lo fd r 1023 53 hr (by decide) (by decide) h0 HF HEQ hFI hFD hFC (fun w => emax_3 w) w
  · rw [decide_eq_false h] at hFI
    rw [show clsN 64 53 11 (lo + 18446744073709551616 * hi) = 0 from by unfold clsN; rw [if_neg h]]
    exact refClass_no 3 hi lo hFI w

theorem refCls_4 (hi lo : Nat) (hh : hi < 18446744073709551616) (hl : lo < 18446744073709551616) (w : World) : Calls Tryz.prog 67 #[.int .i64 4, .agg #[.int .u64 (hi : Nat), .int .u64 (lo : Nat)]] w fun e w' => e = .returned (.int .i64 ((clsN 128 113 15 (lo + 18446744073709551616 * hi) : Nat) : Int)) ∧ Below w.heap.size w w' := by
  have hQ := q200
  have hq : (lo + 18446744073709551616 * hi) < QQ := by omega
  have hFI := fun w => refFits_4 hi lo hh hl w
  by_cases h : (lo + 18446744073709551616 * hi) < 2 ^ 128
  · rw [decide_eq_true h] at hFI
    have hFD := fun w => refFld_4 hi lo hh hl w
    have hFC := fun w => refFrac_4 hi lo hh hl w
    have hBT := fun w => refBit5_any hi lo 111 hh hl (by decide) ((113 : Nat) - 2) (by decide) w
    rw [← bit_mod (lo + 18446744073709551616 * hi) 111] at hBT
    rw [show clsN 128 113 15 (lo + 18446744073709551616 * hi) = clsP 113 15 ((lo + 18446744073709551616 * hi) / 2 ^ 112 % 2 ^ 15) ((lo + 18446744073709551616 * hi) % 2 ^ 112) from by unfold clsN; rw [if_pos h]]
    have hr : (lo + 18446744073709551616 * hi) % 2 ^ 112 < QQ := Nat.lt_of_le_of_lt (Nat.mod_le _ _) hq
    generalize (lo + 18446744073709551616 * hi) % 2 ^ 112 = r at *
    generalize (lo + 18446744073709551616 * hi) / 2 ^ 112 % 2 ^ 15 = fd at *
    by_cases h1 : fd = 2 ^ 15 - 1
    · have HEQ : Hid (((fd : Int) == (2 * ((16383 : Nat) : Int) + 1)) = true) := by unfold Hid; rw [beq_iff_eq, h1]; decide
      by_cases h0 : r = 0
      · rw [show clsP 113 15 fd r = 3 by unfold clsP; rw [if_pos h1, if_pos h0]]
        exact refCls_inf 4 hi lo fd r 16383 113 hr (by decide) (by decide) h0 HEQ hFI hFD hFC (fun w => emax_4 w) w
      · by_cases h2 : r / 2 ^ 111 % 2 = 1
        · rw [show clsP 113 15 fd r = 2 by unfold clsP; rw [if_pos h1, if_neg h0, if_pos h2]]
          rw [show (r / 2 ^ 111 % 2 == 1) = true by rw [beq_iff_eq]; exact h2] at hBT
          exact refCls_quiet 4 hi lo fd r 16383 113 hr (by decide) (by decide) h0 HEQ (fun w => prec_4 w) hBT hFI hFD hFC (fun w => emax_4 w) w
        · rw [show clsP 113 15 fd r = 1 by unfold clsP; rw [if_pos h1, if_neg h0, if_neg h2]]
          rw [show (r / 2 ^ 111 % 2 == 1) = false by rw [beq_eq_false_iff_ne]; exact h2] at hBT
          exact refCls_sig 4 hi lo fd r 16383 113 hr (by decide) (by decide) h0 HEQ (fun w => prec_4 w) hBT hFI hFD hFC (fun w => emax_4 w) w
    · have HEQ : Hid (((fd : Int) == (2 * ((16383 : Nat) : Int) + 1)) = false) := by unfold Hid; rw [beq_eq_false_iff_ne]; omega
      by_cases hf : fd = 0
      · have HF : Hid (decide ((0 : Int) < (fd : Int)) = false) := by unfold Hid; rw [decide_eq_false_iff_not]; omega
        by_cases h0 : r = 0
        · rw [show clsP 113 15 fd r = 6 by unfold clsP; rw [if_neg h1, if_pos hf, if_pos h0]]
          exact refCls_zero 4 hi lo fd r 16383 113 hr (by decide) (by decide) h0 HF HEQ hFI hFD hFC (fun w => emax_4 w) w
        · rw [show clsP 113 15 fd r = 5 by unfold clsP; rw [if_neg h1, if_pos hf, if_neg h0]]
          exact refCls_sub 4 hi lo fd r 16383 113 hr (by decide) (by decide) h0 HF HEQ hFI hFD hFC (fun w => emax_4 w) w
      · have HF : Hid (decide ((0 : Int) < (fd : Int)) = true) := by unfold Hid; rw [decide_eq_true_eq]; omega
        rw [show clsP 113 15 fd r = 4 by unfold clsP; rw [if_neg h1, if_neg hf]]
        by_cases h0 : r = 0
        · exact refCls_norm0 4 hi lo fd r 16383 113 hr (by decide) (by decide) h0 HF HEQ hFI hFD hFC (fun w => emax_4 w) w
        · exact refCls_norm 4 hi lo fd r 16383 113 hr (by decide) (by decide) h0 HF HEQ hFI hFD hFC (fun w => emax_4 w) w
  · rw [decide_eq_false h] at hFI
    rw [show clsN 128 113 15 (lo + 18446744073709551616 * hi) = 0 from by unfold clsN; rw [if_neg h]]
    exact refClass_no 4 hi lo hFI w

end Go.Proofs.YtpcjdllijkjdkaaGreatDoor

/- Contracts: radicandref06.Neg; what is none of a format's, for all of ref06 and class. -/
set_option linter.unusedVariables false
set_option linter.unusedSimpArgs false
set_option maxRecDepth 8000
namespace Go.Proofs.YtpcjdllijkjdkaaGreatDoor
open Go.RowKit Plain

theorem refCls_none (f : Int) (h : f < 1 ∨ 4 < f) (hi lo : Nat) (w : World) : Calls Tryz.prog 67 #[.int .i64 f, .agg #[.int .u64 (hi : Nat), .int .u64 (lo : Nat)]] w fun e w' => e = .returned (.int .i64 0) ∧ Below w.heap.size w w' :=
  refClass_no f hi lo (fun w => refFits_none f h hi lo w) w

set_option maxHeartbeats 1000000 in
theorem refNeg_no (f : Int) (hi lo : Nat)
    (HFI : Hid (∀ w, Calls Tryz.prog 91 #[.int .i64 f, .agg #[.int .u64 (hi : Nat), .int .u64 (lo : Nat)]] w fun e w' => e = .returned (.bool false) ∧ Below w.heap.size w w')) (w : World) : Calls Tryz.prog 95 #[.int .i64 f, .agg #[.int .u64 (hi : Nat), .int .u64 (lo : Nat)]] w fun e w' => e = .returned (.bool false) ∧ Below w.heap.size w w' := by
  have HST := hide (fitSt_start hi lo w)
  go_enter Tryz.func95, Tryz.ntmps95
  go_upto_region 1 with fail
  refine wp_gen (fun W => FitSt hi lo w W) HST.out ?_
  clear HST
  rintro W1 h1
  refine wp_region_grow 10 [(5, .val (.int .i64 f)), (6, .val (.agg #[.int .u64 (hi : Nat), .int .u64 (lo : Nat)])), (7, .val (.bool false)), (8, .val (.bool false)), (9, .val (undef)), (10, .val (undef)), (11, .val (undef)), (12, .val (undef)), (13, .val (undef)), (14, .val (.bool false))]
    (fun W => FitSt hi lo w W) mixedOk (by kernel_rfl) (by kernel_rfl) (h1.below (Below.refl _ _).drew) (fun W W' h hb => h.below hb) ?_ ?_
  · refine gSt (gStep_run rfl (gRun_move 0 5 (.inl rfl) rfl (by decide +kernel) (fun v w h => h))) ?_
    refine gSt (gStep_run rfl ?_) ?_
    · intro ρ W hC hc hf hL
      have e3 : ρ (.tmp 3) = .pointer (some ⟨w.heap.size, 0, none⟩) := hL 3 (by decide +kernel)
      have l0 := hC.h
      have l1 := hC.l
      simp [go_sem, hc, hf, e3, l0, l1]
      exact ⟨Below.refl _ _, rfl⟩
    refine gSt (gStep_run rfl ?_) ?_
    · intro ρ W hC hc hf hL
      have e5 : ρ (.tmp 5) = .int .i64 f := hL 5 (by decide +kernel)
      have e6 : ρ (.tmp 6) = .agg #[.int .u64 (hi : Nat), .int .u64 (lo : Nat)] := hL 6 (by decide +kernel)
      simp [go_sem, hc, hf, e5, e6]
      refine (HFI.out W).mono ?_
      rintro e w' ⟨rfl, hb⟩
      exact ⟨_, rfl, by first | exact hb | (subst hb; exact Below.refl _ _), rfl⟩
    refine gSt (gStep_run rfl (gRun_move 7 8 (.inl rfl) rfl (by decide +kernel) (fun v w h => h))) ?_
    refine gSt (gStep_off 3 8 true rfl rfl (by decide +kernel) (fun v w h => h) (fun w => rfl)) ?_
    refine gSt (gStep_off 3 8 true rfl rfl (by decide +kernel) (fun v w h => h) (fun w => rfl)) ?_
    refine gSt (gStep_off 3 8 true rfl rfl (by decide +kernel) (fun v w h => h) (fun w => rfl)) ?_
    refine gSt (gStep_off 3 8 true rfl rfl (by decide +kernel) (fun v w h => h) (fun w => rfl)) ?_
    refine gSt (gStep_off 3 8 true rfl rfl (by decide +kernel) (fun v w h => h) (fun w => rfl)) ?_
    refine gSt (gStep_run rfl (gRun_pickF 8 14 _ _ rfl rfl (by decide +kernel) (fun v w h => h) (fun w => rfl))) ?_
    exact gSt0
  · intro W hC
    refine gFi 5 rfl ?_
    rintro _ rfl
    refine gFi 6 rfl ?_
    rintro _ rfl
    refine gFi 7 rfl ?_
    rintro _ rfl
    refine gFi 8 rfl ?_
    rintro _ rfl
    refine gFi 9 rfl ?_
    rintro _ rfl
    refine gFi 10 rfl ?_
    rintro _ rfl
    refine gFi 11 rfl ?_
    rintro _ rfl
    refine gFi 12 rfl ?_
    rintro _ rfl
    refine gFi 13 rfl ?_
    rintro _ rfl
    refine gFi 14 rfl ?_
    rintro _ rfl
    refine gFi0 ?_
    simp only [List.drop_succ_cons, List.drop_zero, Act.put, List.setIfInBounds_toArray, List.set_cons_succ, List.set_cons_zero]
    have HB := hide hC.bel
    clear hC h1
    go_wp2
    go_ret
    exact ⟨rfl, HB.out⟩

set_option maxHeartbeats 1000000 in
theorem refNeg_yes (f : Int) (hi lo B : Nat) (b : Bool) (hB : 1 ≤ B ∧ B ≤ 128)
    (HFI : Hid (∀ w, Calls Tryz.prog 91 #[.int .i64 f, .agg #[.int .u64 (hi : Nat), .int .u64 (lo : Nat)]] w fun e w' => e = .returned (.bool true) ∧ Below w.heap.size w w'))
    (HBI : Hid (∀ w, Calls Tryz.prog 33 #[.int .i64 f] w fun e w' => e = .returned (.int .i64 (B : Nat)) ∧ w' = w))
    (HBT : Hid (∀ w, Calls Tryz.prog 71 #[.agg #[.int .u64 (hi : Nat), .int .u64 (lo : Nat)], .int .i64 ((B : Int) - 1)] w fun e w' => e = .returned (.bool b) ∧ Below w.heap.size w w')) (w : World) : Calls Tryz.prog 95 #[.int .i64 f, .agg #[.int .u64 (hi : Nat), .int .u64 (lo : Nat)]] w fun e w' => e = .returned (.bool b) ∧ Below w.heap.size w w' := by
  have HW : Hid (IntKind.i64.wrap ((B : Int) - 1) = (B : Int) - 1) := by unfold Hid; rw [IntKind.wrap_i64]; omega
  clear hB
  have HST := hide (fitSt_start hi lo w)
  go_enter Tryz.func95, Tryz.ntmps95
  go_upto_region 1 with fail
  refine wp_gen (fun W => FitSt hi lo w W) HST.out ?_
  clear HST
  rintro W1 h1
  refine wp_region_grow 10 [(5, .val (.int .i64 f)), (6, .val (.agg #[.int .u64 (hi : Nat), .int .u64 (lo : Nat)])), (7, .val (.bool true)), (8, .val (.bool true)), (9, .val (.agg #[.int .u64 (hi : Nat), .int .u64 (lo : Nat)])), (10, .val (.int .i64 f)), (11, .val (.int .i64 (B : Nat))), (12, .val (.int .i64 ((B : Int) - 1))), (13, .val (.bool b)), (14, .val (.bool b))]
    (fun W => FitSt hi lo w W) mixedOk (by kernel_rfl) (by kernel_rfl) (h1.below (Below.refl _ _).drew) (fun W W' h hb => h.below hb) ?_ ?_
  · refine gSt (gStep_run rfl (gRun_move 0 5 (.inl rfl) rfl (by decide +kernel) (fun v w h => h))) ?_
    refine gSt (gStep_run rfl ?_) ?_
    · intro ρ W hC hc hf hL
      have e3 : ρ (.tmp 3) = .pointer (some ⟨w.heap.size, 0, none⟩) := hL 3 (by decide +kernel)
      have l0 := hC.h
      have l1 := hC.l
      simp [go_sem, hc, hf, e3, l0, l1]
      exact ⟨Below.refl _ _, rfl⟩
    refine gSt (gStep_run rfl ?_) ?_
    · intro ρ W hC hc hf hL
      have e5 : ρ (.tmp 5) = .int .i64 f := hL 5 (by decide +kernel)
      have e6 : ρ (.tmp 6) = .agg #[.int .u64 (hi : Nat), .int .u64 (lo : Nat)] := hL 6 (by decide +kernel)
      simp [go_sem, hc, hf, e5, e6]
      refine (HFI.out W).mono ?_
      rintro e w' ⟨rfl, hb⟩
      exact ⟨_, rfl, by first | exact hb | (subst hb; exact Below.refl _ _), rfl⟩
    refine gSt (gStep_run rfl (gRun_move 7 8 (.inl rfl) rfl (by decide +kernel) (fun v w h => h))) ?_
    refine gSt (gStep_on 3 8 true rfl rfl (by decide +kernel) (fun v w h => h) ?_) ?_
    · intro ρ W hC hc hf hL
      have e3 : ρ (.tmp 3) = .pointer (some ⟨w.heap.size, 0, none⟩) := hL 3 (by decide +kernel)
      have l0 := hC.h
      have l1 := hC.l
      simp [go_sem, hc, hf, e3, l0, l1]
      exact ⟨Below.refl _ _, rfl⟩
    refine gSt (gStep_on 3 8 true rfl rfl (by decide +kernel) (fun v w h => h) (gRun_move 0 10 (.inl rfl) rfl (by decide +kernel) (fun v w h => h))) ?_
    refine gSt (gStep_on 3 8 true rfl rfl (by decide +kernel) (fun v w h => h) ?_) ?_
    · intro ρ W hC hc hf hL
      have e10 : ρ (.tmp 10) = .int .i64 f := hL 10 (by decide +kernel)
      simp [go_sem, hc, hf, e10]
      refine (HBI.out W).mono ?_
      rintro e w' ⟨rfl, hb⟩
      exact ⟨_, rfl, by first | exact hb | (subst hb; exact Below.refl _ _), rfl⟩
    refine gSt (gStep_on 3 8 true rfl rfl (by decide +kernel) (fun v w h => h) ?_) ?_
    · intro ρ W hC hc hf hL
      have e11 : ρ (.tmp 11) = .int .i64 (B : Nat) := hL 11 (by decide +kernel)
      have hl := HW.out
      simp [go_sem, hc, hf, e11, hl]
      exact ⟨Below.refl _ _, rfl⟩
    refine gSt (gStep_on 3 8 true rfl rfl (by decide +kernel) (fun v w h => h) ?_) ?_
    · intro ρ W hC hc hf hL
      have e9 : ρ (.tmp 9) = .agg #[.int .u64 (hi : Nat), .int .u64 (lo : Nat)] := hL 9 (by decide +kernel)
      have e12 : ρ (.tmp 12) = .int .i64 ((B : Int) - 1) := hL 12 (by decide +kernel)
      simp [go_sem, hc, hf, e9, e12]
      refine (HBT.out W).mono ?_
      rintro e w' ⟨rfl, hb⟩
      exact ⟨_, rfl, by first | exact hb | (subst hb; exact Below.refl _ _), rfl⟩
    refine gSt (gStep_run rfl (gRun_pickT 8 13 14 _ rfl rfl (by decide +kernel) (by decide +kernel) (fun v w h => h) (fun v w h => h))) ?_
    exact gSt0
  · intro W hC
    refine gFi 5 rfl ?_
    rintro _ rfl
    refine gFi 6 rfl ?_
    rintro _ rfl
    refine gFi 7 rfl ?_
    rintro _ rfl
    refine gFi 8 rfl ?_
    rintro _ rfl
    refine gFi 9 rfl ?_
    rintro _ rfl
    refine gFi 10 rfl ?_
    rintro _ rfl
    refine gFi 11 rfl ?_
    rintro _ rfl
    refine gFi 12 rfl ?_
    rintro _ rfl
    refine gFi 13 rfl ?_
    rintro _ rfl
    refine gFi 14 rfl ?_
    rintro _ rfl
    refine gFi0 ?_
    simp only [List.drop_succ_cons, List.drop_zero, Act.put, List.setIfInBounds_toArray, List.set_cons_succ, List.set_cons_zero]
    have HB := hide hC.bel
    clear hC h1
    go_wp2
    go_ret
    exact ⟨rfl, HB.out⟩

theorem refNeg_none (f : Int) (h : f < 1 ∨ 4 < f) (hi lo : Nat) (w : World) : Calls Tryz.prog 95 #[.int .i64 f, .agg #[.int .u64 (hi : Nat), .int .u64 (lo : Nat)]] w fun e w' => e = .returned (.bool false) ∧ Below w.heap.size w w' :=
  refNeg_no f hi lo (fun w => refFits_none f h hi lo w) w
theorem refNeg_1 (hi lo : Nat) (hh : hi < 18446744073709551616) (hl : lo < 18446744073709551616) (w : World) : Calls Tryz.prog 95 #[.int .i64 1, .agg #[.int .u64 (hi : Nat), .int .u64 (lo : Nat)]] w fun e w' => e = .returned (.bool (negN 16 (lo + 18446744073709551616 * hi))) ∧ Below w.heap.size w w' := by
  have hFI := fun w => refFits_1 hi lo hh hl w
  by_cases h : (lo + 18446744073709551616 * hi) < 2 ^ 16
  · rw [decide_eq_true h] at hFI
    rw [show negN 16 (lo + 18446744073709551616 * hi) = ((lo + 18446744073709551616 * hi) / 2 ^ 15 % 2 == 1) from by unfold negN; rw [decide_eq_true h, Bool.true_and]]
    exact refNeg_yes 1 hi lo 16 _ (by decide) hFI (fun w => bits_1 w) (fun w => refBit5_any hi lo 15 hh hl (by decide) _ (by decide) w) w
  · rw [decide_eq_false h] at hFI
    rw [show negN 16 (lo + 18446744073709551616 * hi) = false from by unfold negN; rw [decide_eq_false h, Bool.false_and]]
    exact refNeg_no 1 hi lo hFI w
theorem refNeg_2 (hi lo : Nat) (hh : hi < 18446744073709551616) (hl : lo < 18446744073709551616) (w : World) : Calls Tryz.prog 95 #[.int .i64 2, .agg #[.int .u64 (hi : Nat), .int .u64 (lo : Nat)]] w fun e w' => e = .returned (.bool (negN 32 (lo + 18446744073709551616 * hi))) ∧ Below w.heap.size w w' := by
  have hFI := fun w => refFits_2 hi lo hh hl w
  by_cases h : (lo + 18446744073709551616 * hi) < 2 ^ 32
  · rw [decide_eq_true h] at hFI
    rw [show negN 32 (lo + 18446744073709551616 * hi) = ((lo + 18446744073709551616 * hi) / 2 ^ 31 % 2 == 1) from by unfold negN; rw [decide_eq_true h, Bool.true_and]]
    exact refNeg_yes 2 hi lo 32 _ (by decide) hFI (fun w => bits_2 w) (fun w => refBit5_any hi lo 31 hh hl (by decide) _ (by decide) w) w
  · rw [decide_eq_false h] at hFI
    rw [show negN 32 (lo + 18446744073709551616 * hi) = false from by unfold negN; rw [decide_eq_false h, Bool.false_and]]
    exact refNeg_no 2 hi lo hFI w
theorem refNeg_3 (hi lo : Nat) (hh : hi < 18446744073709551616) (hl : lo < 18446744073709551616) (w : World) : Calls Tryz.prog 95 #[.int .i64 3, .agg #[.int .u64 (hi : Nat), .int .u64 (lo : Nat)]] w fun e w' => e = .returned (.bool (negN 64 (lo + 18446744073709551616 * hi))) ∧ Below w.heap.size w w' := by
  have hFI := fun w => refFits_3 hi lo hh hl w
  by_cases h : (lo + 18446744073709551616 * hi) < 2 ^ 64
  · rw [decide_eq_true h] at hFI
    rw [show negN 64 (lo + 18446744073709551616 * hi) = ((lo + 18446744073709551616 * hi) / 2 ^ 63 % 2 == 1) from by unfold negN; rw [decide_eq_true h, Bool.true_and]]
    exact refNeg_yes 3 hi lo 64 _ (by decide) hFI (fun w => bits_3 w) (fun w => refBit5_any hi lo 63 hh hl (by decide) _ (by decide) w) w
  · rw [decide_eq_false h] at hFI
    rw [show negN 64 (lo + 18446744073709551616 * hi) = false from by unfold negN; rw [decide_eq_false h, Bool.false_and]]
    exact refNeg_no 3 hi lo hFI w
theorem refNeg_4 (hi lo : Nat) (hh : hi < 18446744073709551616) (hl : lo < 18446744073709551616) (w : World) : Calls Tryz.prog 95 #[.int .i64 4, .agg #[.int .u64 (hi : Nat), .int .u64 (lo : Nat)]] w fun e w' => e = .returned (.bool (negN 128 (lo + 18446744073709551616 * hi))) ∧ Below w.heap.size w w' := by
  have hFI := fun w => refFits_4 hi lo hh hl w
  by_cases h : (lo + 18446744073709551616 * hi) < 2 ^ 128
  · rw [decide_eq_true h] at hFI
    rw [show negN 128 (lo + 18446744073709551616 * hi) = ((lo + 18446744073709551616 * hi) / 2 ^ 127 % 2 == 1) from by unfold negN; rw [decide_eq_true h, Bool.true_and]]
    exact refNeg_yes 4 hi lo 128 _ (by decide) hFI (fun w => bits_4 w) (fun w => refBit5_any hi lo 127 hh hl (by decide) _ (by decide) w) w
  · rw [decide_eq_false h] at hFI
    rw [show negN 128 (lo + 18446744073709551616 * hi) = false from by unfold negN; rw [decide_eq_false h, Bool.false_and]]
    exact refNeg_no 4 hi lo hFI w

end Go.Proofs.YtpcjdllijkjdkaaGreatDoor

/- Contracts: class.Make, as a walk. -/
set_option linter.unusedVariables false
set_option linter.unusedSimpArgs false
set_option maxRecDepth 8000
namespace Go.Proofs.YtpcjdllijkjdkaaGreatDoor
open Go.RowKit Plain

/-- What Make goes by: the fraction, the result, the format's record. -/
structure MkSt (w : World) (p : Nat) (k : Nat → Int) (b : Nat) (W : World) : Prop where
  g : FmtG W
  gl : 0 < w.heap.size
  lb : LiesF W (w.heap.size) (dgl b)
  r0 : W.cell? ⟨w.heap.size + 1, 0, none⟩ = some (.int .u64 0)
  r1 : W.cell? ⟨w.heap.size + 1, 1, none⟩ = some (.int .u64 0)
  fz : ∀ i, W.frozen? ⟨w.heap.size + 1, i, none⟩ = false
  lt : w.heap.size + 1 < W.heap.size
  rk : ∀ i, i < 5 → W.cell? ⟨p, i, none⟩ = some (.int .i64 (k i))
  lk : p < W.heap.size
  ne : w.heap.size + 1 < p
  bel : Below w.heap.size w W
theorem MkSt.under {w : World} {p : Nat} {k : Nat → Int} {b : Nat} {W W' : World} (h : MkSt w p k b W) {C : Nat} (hb : Below C W W') (hc : p < C) : MkSt w p k b W' :=
  have hn := h.ne
  have hg := h.gl
  ⟨⟨fun i hi => (hb.cell (p := ⟨0, i, none⟩) (show 0 < _ by omega)).trans (h.g.c i hi), Nat.lt_of_lt_of_le h.g.lt hb.size⟩, h.gl, lies_box h.lb hb (by omega), (hb.cell (p := ⟨w.heap.size + 1, 0, none⟩) (show w.heap.size + 1 < C by omega)).trans h.r0, (hb.cell (p := ⟨w.heap.size + 1, 1, none⟩) (show w.heap.size + 1 < C by omega)).trans h.r1,
    fun i => (hb.frozen (p := ⟨w.heap.size + 1, i, none⟩) (show w.heap.size + 1 < C by omega)).trans (h.fz i), Nat.lt_of_lt_of_le h.lt hb.size, fun i hi => (hb.cell (p := ⟨p, i, none⟩) hc).trans (h.rk i hi), Nat.lt_of_lt_of_le h.lk hb.size, h.ne, h.bel.trans (hb.mono (by omega))⟩
theorem MkSt.below {w : World} {p : Nat} {k : Nat → Int} {b : Nat} {W W' : World} (h : MkSt w p k b W) (hb : Below W.heap.size W W') : MkSt w p k b W' := h.under hb h.lk
theorem mkSt_start (w w1 : World) (k : Nat → Int) (b : Nat) (hg : FmtG w) (hb : Below ((w.alloc (.cells #[.int .u64 (dgl (b) 0 : Nat), .int .u64 (dgl (b) 1 : Nat), .int .u64 (dgl (b) 2 : Nat), .int .u64 (dgl (b) 3 : Nat), .int .u64 (dgl (b) 4 : Nat), .int .u64 (dgl (b) 5 : Nat), .int .u64 (dgl (b) 6 : Nat), .int .u64 (dgl (b) 7 : Nat)] 25)).alloc (.cells #[.int .u64 0, .int .u64 0] 29)).heap.size ((w.alloc (.cells #[.int .u64 (dgl (b) 0 : Nat), .int .u64 (dgl (b) 1 : Nat), .int .u64 (dgl (b) 2 : Nat), .int .u64 (dgl (b) 3 : Nat), .int .u64 (dgl (b) 4 : Nat), .int .u64 (dgl (b) 5 : Nat), .int .u64 (dgl (b) 6 : Nat), .int .u64 (dgl (b) 7 : Nat)] 25)).alloc (.cells #[.int .u64 0, .int .u64 0] 29)) w1) :
    MkSt w w1.heap.size k b (w1.alloc (.cells #[.int .i64 (k 0), .int .i64 (k 1), .int .i64 (k 2), .int .i64 (k 3), .int .i64 (k 4)] 49)) := by
  have hs := hb.size
  have h0 := below_trans hb (below_allocs w1 (.cells #[.int .i64 (k 0), .int .i64 (k 1), .int .i64 (k 2), .int .i64 (k 3), .int .i64 (k 4)] 49))
  have ha := below_trans (below_allocs w (.cells #[.int .u64 (dgl (b) 0 : Nat), .int .u64 (dgl (b) 1 : Nat), .int .u64 (dgl (b) 2 : Nat), .int .u64 (dgl (b) 3 : Nat), .int .u64 (dgl (b) 4 : Nat), .int .u64 (dgl (b) 5 : Nat), .int .u64 (dgl (b) 6 : Nat), .int .u64 (dgl (b) 7 : Nat)] 25)) (below_allocs (w.alloc (.cells #[.int .u64 (dgl (b) 0 : Nat), .int .u64 (dgl (b) 1 : Nat), .int .u64 (dgl (b) 2 : Nat), .int .u64 (dgl (b) 3 : Nat), .int .u64 (dgl (b) 4 : Nat), .int .u64 (dgl (b) 5 : Nat), .int .u64 (dgl (b) 6 : Nat), .int .u64 (dgl (b) 7 : Nat)] 25)) (.cells #[.int .u64 0, .int .u64 0] 29))
  have hl := ((liesF_new w (dgl b) 25).alloc (.cells #[.int .u64 0, .int .u64 0] 29)).below h0
  rw [World.size_alloc, World.size_alloc] at hs h0
  have hbel := below_trans ha (show Below ((w.alloc (.cells #[.int .u64 (dgl (b) 0 : Nat), .int .u64 (dgl (b) 1 : Nat), .int .u64 (dgl (b) 2 : Nat), .int .u64 (dgl (b) 3 : Nat), .int .u64 (dgl (b) 4 : Nat), .int .u64 (dgl (b) 5 : Nat), .int .u64 (dgl (b) 6 : Nat), .int .u64 (dgl (b) 7 : Nat)] 25)).alloc (.cells #[.int .u64 0, .int .u64 0] 29)).heap.size _ _ by rw [World.size_alloc, World.size_alloc]; exact h0)
  refine ⟨hg.below hbel, hg.lt, hl, (h0.cell (p := ⟨w.heap.size + 1, 0, none⟩) (show w.heap.size + 1 < w.heap.size + 1 + 1 by omega)).trans (by simp [go_sem]), (h0.cell (p := ⟨w.heap.size + 1, 1, none⟩) (show w.heap.size + 1 < w.heap.size + 1 + 1 by omega)).trans (by simp [go_sem]),
    fun i => (h0.frozen (p := ⟨w.heap.size + 1, i, none⟩) (show w.heap.size + 1 < w.heap.size + 1 + 1 by omega)).trans (by simp [go_sem]), by simp; omega, fun i hi => rec5_new w1 k _ i hi, by simp, by omega, hbel⟩

end Go.Proofs.YtpcjdllijkjdkaaGreatDoor

