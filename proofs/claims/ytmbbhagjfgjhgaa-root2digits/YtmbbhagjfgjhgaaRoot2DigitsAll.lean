/- For all wides the law radicandlaw12.Root2Digits returns true, and its argument reads afterwards as it read before. No condition. -/
import Derived.Test.YtmbbhagjfgjhgaaPartAP
import Derived.Test.YtmbbhagjfgjhgaaRows
import Derived.WalkKit
import Derived.ProofKit
import Derived.OpenShut
import Derived.ShutString
import Derived.ChangeOld
import Derived.Below
/- For all wides the law radicandlaw12.Root2Digits returns true. -/
set_option linter.unusedVariables false
set_option linter.unusedSimpArgs false
set_option maxRecDepth 8000
namespace Go.Proofs.Ytmbbhagjfgjhgaa
open Go.RowKit Plain

/-- A list of 128 digits, and a root in a box. -/
structure Ld2St (L : List Nat) (b off q p5 : Nat) (w W : World) : Prop where
  c : ∀ i, i < 128 → W.cell? ⟨b, off + i, none⟩ = some (mkI (dg L i))
  lt : b < W.heap.size
  l5 : LiesF W p5 (dgl q)
  bel : Below w.heap.size w W
theorem Ld2St.below {L : List Nat} {b off q p5 : Nat} {w W W' : World} (h : Ld2St L b off q p5 w W) (hb : Below W.heap.size W W') : Ld2St L b off q p5 w W' :=
  ⟨fun i hi => (hb.cell (p := ⟨b, off + i, none⟩) h.lt).trans (h.c i hi), Nat.lt_of_lt_of_le h.lt hb.size, h.l5.below hb, below_trans h.bel hb⟩
theorem rd128' {W : World} {v : Value} {L : List Nat} (h : Rd mkI W v L) (hl : L.length = 128) : ∃ b off cap, v = .slice (some ⟨b, off, none⟩) 128 cap ∧ b < W.heap.size ∧ ∀ i, i < 128 → W.cell? ⟨b, off + i, none⟩ = some (mkI (dg L i)) := by
  obtain ⟨ao, cap, rfl, h1, h2, h3⟩ := h
  rw [hl] at h3 ⊢
  rcases h3 with h3 | ⟨b, off, rfl, h4, h5⟩
  · omega
  · exact ⟨b, off, cap, rfl, h4, h5⟩

set_option maxHeartbeats 2000000 in
theorem rlaw_E (n : Nat)
    (HD : Hid (∀ w, Calls Try.prog 36 #[.agg #[.int .u64 (dgl (n) 0 : Nat), .int .u64 (dgl (n) 1 : Nat), .int .u64 (dgl (n) 2 : Nat), .int .u64 (dgl (n) 3 : Nat), .int .u64 (dgl (n) 4 : Nat), .int .u64 (dgl (n) 5 : Nat), .int .u64 (dgl (n) 6 : Nat), .int .u64 (dgl (n) 7 : Nat)]] w fun e w' => e = .returned (.tuple #[.slice none 0 0, .int .i64 4]) ∧ Below w.heap.size w w'))
    (HM : Hid (∀ w, Calls Try.prog 37 #[.agg #[.int .u64 (dgl (n) 0 : Nat), .int .u64 (dgl (n) 1 : Nat), .int .u64 (dgl (n) 2 : Nat), .int .u64 (dgl (n) 3 : Nat), .int .u64 (dgl (n) 4 : Nat), .int .u64 (dgl (n) 5 : Nat), .int .u64 (dgl (n) 6 : Nat), .int .u64 (dgl (n) 7 : Nat)]] w fun e w' => e = .returned (.bool false) ∧ Below w.heap.size w w'))
    (HAW : Hid (∀ w, Calls Try.prog 35 #[] w fun e w' => e = .returned (.bool true) ∧ Below w.heap.size w w')) (w : World) :
    Calls Try.prog 9 #[.agg #[.int .u64 (dgl (n) 0 : Nat), .int .u64 (dgl (n) 1 : Nat), .int .u64 (dgl (n) 2 : Nat), .int .u64 (dgl (n) 3 : Nat), .int .u64 (dgl (n) 4 : Nat), .int .u64 (dgl (n) 5 : Nat), .int .u64 (dgl (n) 6 : Nat), .int .u64 (dgl (n) 7 : Nat)]] w fun e w' => e = .returned (.bool true) ∧ Below w.heap.size w w' := by
  have HS : Hid (LiesF (w.alloc (.cells #[.int .u64 (dgl (n) 0 : Nat), .int .u64 (dgl (n) 1 : Nat), .int .u64 (dgl (n) 2 : Nat), .int .u64 (dgl (n) 3 : Nat), .int .u64 (dgl (n) 4 : Nat), .int .u64 (dgl (n) 5 : Nat), .int .u64 (dgl (n) 6 : Nat), .int .u64 (dgl (n) 7 : Nat)] 24)) w.heap.size (dgl n) ∧ Below w.heap.size w (w.alloc (.cells #[.int .u64 (dgl (n) 0 : Nat), .int .u64 (dgl (n) 1 : Nat), .int .u64 (dgl (n) 2 : Nat), .int .u64 (dgl (n) 3 : Nat), .int .u64 (dgl (n) 4 : Nat), .int .u64 (dgl (n) 5 : Nat), .int .u64 (dgl (n) 6 : Nat), .int .u64 (dgl (n) 7 : Nat)] 24))) := ⟨liesF_new w (dgl n) _, below_allocs w _⟩
  go_enter Try.func9, Try.ntmps9
  have hca := HS.out.1.1
  go_wp2_with fail
  refine (HD.out _).mono ?_
  rintro e' w1 ⟨rfl, hb1⟩
  replace HS := hide (show LiesF w1 w.heap.size (dgl n) ∧ Below w.heap.size w w1 from ⟨HS.out.1.below hb1, below_trans HS.out.2 hb1⟩)
  clear hb1 hca
  have hca := HS.out.1.1
  go_wp2_with fail
  refine (HM.out _).mono ?_
  rintro e' w2 ⟨rfl, hb2⟩
  replace HS := hide (show LiesF w2 w.heap.size (dgl n) ∧ Below w.heap.size w w2 from ⟨HS.out.1.below hb2, below_trans HS.out.2 hb2⟩)
  clear hb2 hca
  go_wp2_with fail
  refine (HAW.out _).mono ?_
  rintro e' w3 ⟨rfl, hb3⟩
  have HB := hide (below_trans HS.out.2 hb3)
  clear HS hb3
  go_wp2
  go_ret
  exact ⟨rfl, HB.out⟩

set_option maxHeartbeats 4000000 in
theorem rlaw_Y (n q r : Nat)
    (HD : Hid (∀ w, Calls Try.prog 36 #[.agg #[.int .u64 (dgl (n) 0 : Nat), .int .u64 (dgl (n) 1 : Nat), .int .u64 (dgl (n) 2 : Nat), .int .u64 (dgl (n) 3 : Nat), .int .u64 (dgl (n) 4 : Nat), .int .u64 (dgl (n) 5 : Nat), .int .u64 (dgl (n) 6 : Nat), .int .u64 (dgl (n) 7 : Nat)]] w fun e w' => ∃ v L, e = .returned (.tuple #[v, .int .i64 0]) ∧ L.length = 128 ∧ (∀ k, k < 128 → dg L k = q / 2 ^ (127 - k) % 2) ∧ Rd mkI w' v L ∧ Below w.heap.size w w'))
    (HM : Hid (∀ w, Calls Try.prog 37 #[.agg #[.int .u64 (dgl (n) 0 : Nat), .int .u64 (dgl (n) 1 : Nat), .int .u64 (dgl (n) 2 : Nat), .int .u64 (dgl (n) 3 : Nat), .int .u64 (dgl (n) 4 : Nat), .int .u64 (dgl (n) 5 : Nat), .int .u64 (dgl (n) 6 : Nat), .int .u64 (dgl (n) 7 : Nat)]] w fun e w' => e = .returned (.bool true) ∧ Below w.heap.size w w'))
    (HDV : Hid (∀ w, Calls Try.prog 38 #[.agg #[.int .u64 (dgl (n) 0 : Nat), .int .u64 (dgl (n) 1 : Nat), .int .u64 (dgl (n) 2 : Nat), .int .u64 (dgl (n) 3 : Nat), .int .u64 (dgl (n) 4 : Nat), .int .u64 (dgl (n) 5 : Nat), .int .u64 (dgl (n) 6 : Nat), .int .u64 (dgl (n) 7 : Nat)], .int .i64 2] w fun e w' => e = .returned (.tuple #[.agg #[.int .u64 (dgl (q) 0 : Nat), .int .u64 (dgl (q) 1 : Nat), .int .u64 (dgl (q) 2 : Nat), .int .u64 (dgl (q) 3 : Nat), .int .u64 (dgl (q) 4 : Nat), .int .u64 (dgl (q) 5 : Nat), .int .u64 (dgl (q) 6 : Nat), .int .u64 (dgl (q) 7 : Nat)], .agg #[.int .u64 (dgl (r) 0 : Nat), .int .u64 (dgl (r) 1 : Nat), .int .u64 (dgl (r) 2 : Nat), .int .u64 (dgl (r) 3 : Nat), .int .u64 (dgl (r) 4 : Nat), .int .u64 (dgl (r) 5 : Nat), .int .u64 (dgl (r) 6 : Nat), .int .u64 (dgl (r) 7 : Nat)]]) ∧ Below w.heap.size w w'))
    (HBQ : Hid (∀ w, Calls Try.prog 20 #[.agg #[.int .u64 (dgl (q) 0 : Nat), .int .u64 (dgl (q) 1 : Nat), .int .u64 (dgl (q) 2 : Nat), .int .u64 (dgl (q) 3 : Nat), .int .u64 (dgl (q) 4 : Nat), .int .u64 (dgl (q) 5 : Nat), .int .u64 (dgl (q) 6 : Nat), .int .u64 (dgl (q) 7 : Nat)]] w fun e w' => ∃ v, e = .returned v ∧ BigV w' v q 40 ∧ Below w.heap.size w w'))
    (HAW : Hid (∀ w, Calls Try.prog 35 #[] w fun e w' => e = .returned (.bool true) ∧ Below w.heap.size w w')) (w : World) :
    Calls Try.prog 9 #[.agg #[.int .u64 (dgl (n) 0 : Nat), .int .u64 (dgl (n) 1 : Nat), .int .u64 (dgl (n) 2 : Nat), .int .u64 (dgl (n) 3 : Nat), .int .u64 (dgl (n) 4 : Nat), .int .u64 (dgl (n) 5 : Nat), .int .u64 (dgl (n) 6 : Nat), .int .u64 (dgl (n) 7 : Nat)]] w fun e w' => e = .returned (.bool true) ∧ Below w.heap.size w w' := by
  have HS : Hid (LiesF (w.alloc (.cells #[.int .u64 (dgl (n) 0 : Nat), .int .u64 (dgl (n) 1 : Nat), .int .u64 (dgl (n) 2 : Nat), .int .u64 (dgl (n) 3 : Nat), .int .u64 (dgl (n) 4 : Nat), .int .u64 (dgl (n) 5 : Nat), .int .u64 (dgl (n) 6 : Nat), .int .u64 (dgl (n) 7 : Nat)] 24)) w.heap.size (dgl n) ∧ Below w.heap.size w (w.alloc (.cells #[.int .u64 (dgl (n) 0 : Nat), .int .u64 (dgl (n) 1 : Nat), .int .u64 (dgl (n) 2 : Nat), .int .u64 (dgl (n) 3 : Nat), .int .u64 (dgl (n) 4 : Nat), .int .u64 (dgl (n) 5 : Nat), .int .u64 (dgl (n) 6 : Nat), .int .u64 (dgl (n) 7 : Nat)] 24))) := ⟨liesF_new w (dgl n) _, below_allocs w _⟩
  go_enter Try.func9, Try.ntmps9
  have hca := HS.out.1.1
  go_wp2_with fail
  refine (HD.out _).mono ?_
  rintro e' w1 ⟨v, L, rfl, hlen, hdgs, hrd, hb1⟩
  obtain ⟨b, off, cap, rfl, hbl, hcl⟩ := rd128' hrd hlen
  replace HS := hide (show LiesF w1 w.heap.size (dgl n) ∧ Below w.heap.size w w1 ∧ b < w1.heap.size ∧ ∀ i, i < 128 → w1.cell? ⟨b, off + i, none⟩ = some (mkI (dg L i)) from ⟨HS.out.1.below hb1, below_trans HS.out.2 hb1, hbl, hcl⟩)
  have HDG := hide hdgs
  clear hb1 hca hrd hbl hcl HD hlen hdgs
  have hca := HS.out.1.1
  go_wp2_with fail
  refine (HM.out _).mono ?_
  rintro e' w2 ⟨rfl, hb2⟩
  replace HS := hide (show LiesF w2 w.heap.size (dgl n) ∧ Below w.heap.size w w2 ∧ b < w2.heap.size ∧ ∀ i, i < 128 → w2.cell? ⟨b, off + i, none⟩ = some (mkI (dg L i)) from ⟨HS.out.1.below hb2, below_trans HS.out.2.1 hb2, Nat.lt_of_lt_of_le HS.out.2.2.1 hb2.size, fun i hi => (hb2.cell (p := ⟨b, off + i, none⟩) HS.out.2.2.1).trans (HS.out.2.2.2 i hi)⟩)
  clear hb2 hca
  have hca := HS.out.1.1
  go_wp2_with fail
  refine (HDV.out _).mono ?_
  rintro e' w3 ⟨rfl, hb3⟩
  replace HS := hide (show LiesF w3 w.heap.size (dgl n) ∧ Below w.heap.size w w3 ∧ b < w3.heap.size ∧ ∀ i, i < 128 → w3.cell? ⟨b, off + i, none⟩ = some (mkI (dg L i)) from ⟨HS.out.1.below hb3, below_trans HS.out.2.1 hb3, Nat.lt_of_lt_of_le HS.out.2.2.1 hb3.size, fun i hi => (hb3.cell (p := ⟨b, off + i, none⟩) HS.out.2.2.1).trans (HS.out.2.2.2 i hi)⟩)
  clear hb3 hca
  go_upto_region 5 with fail
  have hbw := below_trans (below_allocs w3 (.cells #[.int .u64 (dgl (q) 0 : Nat), .int .u64 (dgl (q) 1 : Nat), .int .u64 (dgl (q) 2 : Nat), .int .u64 (dgl (q) 3 : Nat), .int .u64 (dgl (q) 4 : Nat), .int .u64 (dgl (q) 5 : Nat), .int .u64 (dgl (q) 6 : Nat), .int .u64 (dgl (q) 7 : Nat)] 24)) (below_allocs _ (.cells #[.int .u64 (dgl (r) 0 : Nat), .int .u64 (dgl (r) 1 : Nat), .int .u64 (dgl (r) 2 : Nat), .int .u64 (dgl (r) 3 : Nat), .int .u64 (dgl (r) 4 : Nat), .int .u64 (dgl (r) 5 : Nat), .int .u64 (dgl (r) 6 : Nat), .int .u64 (dgl (r) 7 : Nat)] 24))
  refine wp_gen (fun W => Ld2St L b off q w3.heap.size w W) ⟨fun i hi => (hbw.cell (p := ⟨b, off + i, none⟩) HS.out.2.2.1).trans (HS.out.2.2.2 i hi), Nat.lt_of_lt_of_le HS.out.2.2.1 hbw.size, (r2_put w w3 q r HS.out.2.1 _ _).lx, below_trans HS.out.2.1 hbw⟩ ?_
  clear HS hbw
  generalize w3.heap.size = p5 at *
  rintro W5 h5
  have HS5 := hide h5
  clear h5
  go_wp2
  go_loopw [7] (fun i wr => ∃ k : Nat, k ≤ 128 ∧ i = .int .i64 (k : Nat) ∧ Hid (Ld2St L b off q p5 w wr))
    (fun i _ => 128 - (intOf i).toNat)
  case atStart => exact ⟨0, by omega, rfl, HS5⟩
  case round =>
    clear HS5
    obtain ⟨k, hk, rfl, hst⟩ := hrel
    by_cases hlt : k < 128
    · have hj : (k : Int) < 128 := by omega
      have HK := hide hlt
      obtain ⟨m, hm⟩ : ∃ m, 127 - k = m := ⟨_, rfl⟩
      have HSB : Hid (IntKind.i64.wrap (127 - (k : Int)) = ((m : Nat) : Int) ∧ 127 - (k : Int) = ((m : Nat) : Int)) := by unfold Hid; rw [IntKind.wrap_i64]; omega
      have hdg := HDG.out k hlt
      rw [hm] at hdg
      have hb2 := bitN_cases q m
      have HM9 : Hid (m ≤ 127) := by unfold Hid; omega
      have hcl := hst.out.c k hlt
      have HSR : Hid (∀ u w, BigV w u q 40 → Calls Try.prog 22 #[u, .int .i64 (m : Nat)] w fun e w' => ∃ v', e = .returned v' ∧ BigV w' v' (q / 2 ^ m) 40 ∧ Below w.heap.size w w') := fun u w hu => refShr_any q 40 m u w hu (by decide) (by have := HM9.out; omega)
      have HOD : Hid (∀ u w, BigV w u (q / 2 ^ m) 40 → Calls Try.prog 21 #[u] w fun e w' => e = .returned (.bool (q / 2 ^ m % 2 == 1)) ∧ w' = w) := fun u w hu => refOdd_any _ 40 u w hu
      generalize q / 2 ^ m = sq at *
      clear hm
      rcases hb2 with h0 | h0
      · rw [h0] at hdg HOD
        rw [hdg] at hcl
        have HC := hide hcl
        have HOE : Hid (∀ u w, BigV w u sq 40 → Calls Try.prog 21 #[u] w fun e w' => e = .returned (.bool false) ∧ w' = w) := HOD.out
        clear HOD h0 hdg hcl
        have hw0 : Hid (Ld2St L b off q p5 w wr) := hst
        go_upto_region 10 with fail
        refine wp_gen (fun W => Ld2St L b off q p5 w W ∧ W.cell? ⟨b, off + k, none⟩ = some (.int .i64 0)) ⟨hst.out, HC.out⟩ ?_
        rintro W12 h12
        clear HC hst
        refine wp_region_grow 26 [(42, .val (.slice (some ⟨b, off, none⟩) 128 cap)), (43, .val (.int .i64 (k : Nat))), (44, .val (.pointer (some ⟨b, off + k, none⟩))), (45, .val (.int .i64 0)), (46, .val (.bool false)), (47, .val (.bool false)), (48, .val (.slice (some ⟨b, off, none⟩) 128 cap)), (49, .val (.int .i64 (k : Nat))), (50, .val (.pointer (some ⟨b, off + k, none⟩))), (51, .val (.int .i64 0)), (52, .val (.bool false)), (53, .val (.bool false)), (54, .val (.bool false)), (55, .val (.slice (some ⟨b, off, none⟩) 128 cap)), (56, .val (.int .i64 (k : Nat))), (57, .val (.pointer (some ⟨b, off + k, none⟩))), (58, .val (.int .i64 0)), (59, .val (.bool false)), (60, .val (.agg #[.int .u64 (dgl (q) 0 : Nat), .int .u64 (dgl (q) 1 : Nat), .int .u64 (dgl (q) 2 : Nat), .int .u64 (dgl (q) 3 : Nat), .int .u64 (dgl (q) 4 : Nat), .int .u64 (dgl (q) 5 : Nat), .int .u64 (dgl (q) 6 : Nat), .int .u64 (dgl (q) 7 : Nat)])), (61, .big q 40), (62, .val (.int .i64 (k : Nat))), (63, .val (.int .i64 ((m : Nat) : Int))), (64, .big sq 40), (65, .val (.bool false)), (66, .val (.bool false)), (67, .val (.bool false))]
          (fun W => Ld2St L b off q p5 w W ∧ W.cell? ⟨b, off + k, none⟩ = some (.int .i64 0)) mixedOk (by kernel_rfl) (by kernel_rfl) (⟨h12.1.below (Below.refl _ _).drew, ((Below.refl W12.heap.size W12).drew.cell (p := ⟨b, off + k, none⟩) h12.1.lt).trans h12.2⟩) (fun W W' h hb => ⟨h.1.below hb, (hb.cell (p := ⟨b, off + k, none⟩) h.1.lt).trans h.2⟩) ?_ ?_
        · refine gSt (gStep_run rfl (gRun_move 3 42 (.inl rfl) rfl (by decide +kernel) (fun v w h => h))) ?_
          refine gSt (gStep_run rfl (gRun_move 7 43 (.inl rfl) rfl (by decide +kernel) (fun v w h => h))) ?_
          refine gSt (gStep_run rfl ?_) ?_
          · intro ρ W hC hc hf hL
            have e42 : ρ (.tmp 42) = .slice (some ⟨b, off, none⟩) 128 cap := hL 42 (by decide +kernel)
            have e43 : ρ (.tmp 43) = .int .i64 (k : Nat) := hL 43 (by decide +kernel)
            have hkl : (k : Int) < 128 := by have := HK.out; omega
            have hk0 : (0 : Int) ≤ (k : Int) := by omega
            simp [go_sem, hc, hf, e42, e43, hkl, hk0]
            exact ⟨Below.refl _ _, rfl⟩
          refine gSt (gStep_run rfl ?_) ?_
          · intro ρ W hC hc hf hL
            have e44 : ρ (.tmp 44) = .pointer (some ⟨b, off + k, none⟩) := hL 44 (by decide +kernel)
            have hl := hC.2
            simp [go_sem, hc, hf, e44, hl]
            exact ⟨Below.refl _ _, rfl⟩
          refine gSt (gStep_run rfl ?_) ?_
          · intro ρ W hC hc hf hL
            have e45 : ρ (.tmp 45) = .int .i64 0 := hL 45 (by decide +kernel)
            simp [go_sem, hc, hf, e45]
            exact ⟨Below.refl _ _, rfl⟩
          refine gSt (gStep_run rfl (gRun_move 46 47 (.inl rfl) rfl (by decide +kernel) (fun v w h => h))) ?_
          refine gSt (gStep_on 5 47 false rfl rfl (by decide +kernel) (fun v w h => h) (gRun_move 3 48 (.inl rfl) rfl (by decide +kernel) (fun v w h => h))) ?_
          refine gSt (gStep_on 5 47 false rfl rfl (by decide +kernel) (fun v w h => h) (gRun_move 7 49 (.inl rfl) rfl (by decide +kernel) (fun v w h => h))) ?_
          refine gSt (gStep_on 5 47 false rfl rfl (by decide +kernel) (fun v w h => h) ?_) ?_
          · intro ρ W hC hc hf hL
            have e48 : ρ (.tmp 48) = .slice (some ⟨b, off, none⟩) 128 cap := hL 48 (by decide +kernel)
            have e49 : ρ (.tmp 49) = .int .i64 (k : Nat) := hL 49 (by decide +kernel)
            have hkl : (k : Int) < 128 := by have := HK.out; omega
            have hk0 : (0 : Int) ≤ (k : Int) := by omega
            simp [go_sem, hc, hf, e48, e49, hkl, hk0]
            exact ⟨Below.refl _ _, rfl⟩
          refine gSt (gStep_on 5 47 false rfl rfl (by decide +kernel) (fun v w h => h) ?_) ?_
          · intro ρ W hC hc hf hL
            have e50 : ρ (.tmp 50) = .pointer (some ⟨b, off + k, none⟩) := hL 50 (by decide +kernel)
            have hl := hC.2
            simp [go_sem, hc, hf, e50, hl]
            exact ⟨Below.refl _ _, rfl⟩
          refine gSt (gStep_on 5 47 false rfl rfl (by decide +kernel) (fun v w h => h) ?_) ?_
          · intro ρ W hC hc hf hL
            have e51 : ρ (.tmp 51) = .int .i64 0 := hL 51 (by decide +kernel)
            simp [go_sem, hc, hf, e51]
            exact ⟨Below.refl _ _, rfl⟩
          refine gSt (gStep_run rfl (gRun_pickCF 47 52 53 _ rfl rfl (by decide +kernel) (by decide +kernel) (fun v w h => h) (fun v w h => h))) ?_
          refine gSt (gStep_run rfl (gRun_move 53 54 (.inl rfl) rfl (by decide +kernel) (fun v w h => h))) ?_
          refine gSt (gStep_on 12 54 false rfl rfl (by decide +kernel) (fun v w h => h) (gRun_move 3 55 (.inl rfl) rfl (by decide +kernel) (fun v w h => h))) ?_
          refine gSt (gStep_on 12 54 false rfl rfl (by decide +kernel) (fun v w h => h) (gRun_move 7 56 (.inl rfl) rfl (by decide +kernel) (fun v w h => h))) ?_
          refine gSt (gStep_on 12 54 false rfl rfl (by decide +kernel) (fun v w h => h) ?_) ?_
          · intro ρ W hC hc hf hL
            have e55 : ρ (.tmp 55) = .slice (some ⟨b, off, none⟩) 128 cap := hL 55 (by decide +kernel)
            have e56 : ρ (.tmp 56) = .int .i64 (k : Nat) := hL 56 (by decide +kernel)
            have hkl : (k : Int) < 128 := by have := HK.out; omega
            have hk0 : (0 : Int) ≤ (k : Int) := by omega
            simp [go_sem, hc, hf, e55, e56, hkl, hk0]
            exact ⟨Below.refl _ _, rfl⟩
          refine gSt (gStep_on 12 54 false rfl rfl (by decide +kernel) (fun v w h => h) ?_) ?_
          · intro ρ W hC hc hf hL
            have e57 : ρ (.tmp 57) = .pointer (some ⟨b, off + k, none⟩) := hL 57 (by decide +kernel)
            have hl := hC.2
            simp [go_sem, hc, hf, e57, hl]
            exact ⟨Below.refl _ _, rfl⟩
          refine gSt (gStep_on 12 54 false rfl rfl (by decide +kernel) (fun v w h => h) ?_) ?_
          · intro ρ W hC hc hf hL
            have e58 : ρ (.tmp 58) = .int .i64 0 := hL 58 (by decide +kernel)
            simp [go_sem, hc, hf, e58]
            exact ⟨Below.refl _ _, rfl⟩
          refine gSt (gStep_on 12 54 false rfl rfl (by decide +kernel) (fun v w h => h) ?_) ?_
          · intro ρ W hC hc hf hL
            have e5 : ρ (.tmp 5) = .pointer (some ⟨p5, 0, none⟩) := hL 5 (by decide +kernel)
            have hl := hC.1.l5.1
            simp [go_sem, hc, hf, e5, hl]
            exact ⟨Below.refl _ _, rfl⟩
          refine gSt (gStep_on 12 54 false rfl rfl (by decide +kernel) (fun v w h => h) ?_) ?_
          · intro ρ W hC hc hf hL
            have e60 : ρ (.tmp 60) = .agg #[.int .u64 (dgl (q) 0 : Nat), .int .u64 (dgl (q) 1 : Nat), .int .u64 (dgl (q) 2 : Nat), .int .u64 (dgl (q) 3 : Nat), .int .u64 (dgl (q) 4 : Nat), .int .u64 (dgl (q) 5 : Nat), .int .u64 (dgl (q) 6 : Nat), .int .u64 (dgl (q) 7 : Nat)] := hL 60 (by decide +kernel)
            simp [go_sem, hc, hf, e60]
            refine (HBQ.out W).mono ?_
            rintro e w' ⟨v, rfl, hv, hb⟩
            exact ⟨_, rfl, hb, hv⟩
          refine gSt (gStep_on 12 54 false rfl rfl (by decide +kernel) (fun v w h => h) (gRun_move 7 62 (.inl rfl) rfl (by decide +kernel) (fun v w h => h))) ?_
          refine gSt (gStep_on 12 54 false rfl rfl (by decide +kernel) (fun v w h => h) ?_) ?_
          · intro ρ W hC hc hf hL
            have e62 : ρ (.tmp 62) = .int .i64 (k : Nat) := hL 62 (by decide +kernel)
            have hsb : IntKind.i64.wrap (127 - (k : Int)) = ((m : Nat) : Int) := HSB.out.1
            simp [go_sem, hc, hf, e62, hsb]
            exact ⟨Below.refl _ _, rfl⟩
          refine gSt (gStep_on 12 54 false rfl rfl (by decide +kernel) (fun v w h => h) ?_) ?_
          · intro ρ W hC hc hf hL
            have b61 : BigV W (ρ (.tmp 61)) (q) (40) := hL 61 (by decide +kernel)
            have e63 : ρ (.tmp 63) = .int .i64 ((m : Nat) : Int) := hL 63 (by decide +kernel)
            simp [go_sem, hc, hf, e63]
            refine (HSR.out _ W b61).mono ?_
            rintro e w' ⟨v, rfl, hv, hb⟩
            exact ⟨_, rfl, hb, hv⟩
          refine gSt (gStep_on 12 54 false rfl rfl (by decide +kernel) (fun v w h => h) ?_) ?_
          · intro ρ W hC hc hf hL
            have b64 : BigV W (ρ (.tmp 64)) (sq) (40) := hL 64 (by decide +kernel)
            simp [go_sem, hc, hf]
            refine (HOE.out _ W b64).mono ?_
            rintro e w' ⟨rfl, hb⟩
            exact ⟨_, rfl, by first | exact hb | (subst hb; exact Below.refl _ _), rfl⟩
          refine gSt (gStep_on 12 54 false rfl rfl (by decide +kernel) (fun v w h => h) ?_) ?_
          · intro ρ W hC hc hf hL
            have e59 : ρ (.tmp 59) = .bool false := hL 59 (by decide +kernel)
            have e65 : ρ (.tmp 65) = .bool false := hL 65 (by decide +kernel)
            simp [go_sem, hc, hf, e59, e65]
            exact ⟨Below.refl _ _, rfl⟩
          refine gSt (gStep_run rfl (gRun_pickCF 54 66 67 _ rfl rfl (by decide +kernel) (by decide +kernel) (fun v w h => h) (fun v w h => h))) ?_
          exact gSt0
        · intro W hC
          refine gFi 42 rfl ?_
          rintro _ rfl
          refine gFi 43 rfl ?_
          rintro _ rfl
          refine gFi 44 rfl ?_
          rintro _ rfl
          refine gFi 45 rfl ?_
          rintro _ rfl
          refine gFi 46 rfl ?_
          rintro _ rfl
          refine gFi 47 rfl ?_
          rintro _ rfl
          refine gFi 48 rfl ?_
          rintro _ rfl
          refine gFi 49 rfl ?_
          rintro _ rfl
          refine gFi 50 rfl ?_
          rintro _ rfl
          refine gFi 51 rfl ?_
          rintro _ rfl
          refine gFi 52 rfl ?_
          rintro _ rfl
          refine gFi 53 rfl ?_
          rintro _ rfl
          refine gFi 54 rfl ?_
          rintro _ rfl
          refine gFi 55 rfl ?_
          rintro _ rfl
          refine gFi 56 rfl ?_
          rintro _ rfl
          refine gFi 57 rfl ?_
          rintro _ rfl
          refine gFi 58 rfl ?_
          rintro _ rfl
          refine gFi 59 rfl ?_
          rintro _ rfl
          refine gFi 60 rfl ?_
          rintro _ rfl
          refine gFi 61 rfl ?_
          rintro u61 b61
          refine gFi 62 rfl ?_
          rintro _ rfl
          refine gFi 63 rfl ?_
          rintro _ rfl
          refine gFi 64 rfl ?_
          rintro u64 b64
          refine gFi 65 rfl ?_
          rintro _ rfl
          refine gFi 66 rfl ?_
          rintro _ rfl
          refine gFi 67 rfl ?_
          rintro _ rfl
          refine gFi0 ?_
          simp only [List.drop_succ_cons, List.drop_zero, Act.put, List.setIfInBounds_toArray, List.set_cons_succ, List.set_cons_zero]
          have HS9 := hide hC.1
          clear hC hw0
          have hw1 : IntKind.i64.wrap ((k : Int) + 1) = ((k + 1 : Nat) : Int) := by rw [IntKind.wrap_i64]; omega
          go_wp2
          go_roundw
          case rel => exact ⟨k + 1, by omega, by go_num, HS9⟩
          case measure => simp [intOf]; omega
      · rw [h0] at hdg HOD
        rw [hdg] at hcl
        have HC := hide hcl
        have HOE : Hid (∀ u w, BigV w u sq 40 → Calls Try.prog 21 #[u] w fun e w' => e = .returned (.bool true) ∧ w' = w) := HOD.out
        clear HOD h0 hdg hcl
        have hw0 : Hid (Ld2St L b off q p5 w wr) := hst
        go_upto_region 10 with fail
        refine wp_gen (fun W => Ld2St L b off q p5 w W ∧ W.cell? ⟨b, off + k, none⟩ = some (.int .i64 1)) ⟨hst.out, HC.out⟩ ?_
        rintro W12 h12
        clear HC hst
        refine wp_region_grow 26 [(42, .val (.slice (some ⟨b, off, none⟩) 128 cap)), (43, .val (.int .i64 (k : Nat))), (44, .val (.pointer (some ⟨b, off + k, none⟩))), (45, .val (.int .i64 1)), (46, .val (.bool false)), (47, .val (.bool false)), (48, .val (.slice (some ⟨b, off, none⟩) 128 cap)), (49, .val (.int .i64 (k : Nat))), (50, .val (.pointer (some ⟨b, off + k, none⟩))), (51, .val (.int .i64 1)), (52, .val (.bool false)), (53, .val (.bool false)), (54, .val (.bool false)), (55, .val (.slice (some ⟨b, off, none⟩) 128 cap)), (56, .val (.int .i64 (k : Nat))), (57, .val (.pointer (some ⟨b, off + k, none⟩))), (58, .val (.int .i64 1)), (59, .val (.bool true)), (60, .val (.agg #[.int .u64 (dgl (q) 0 : Nat), .int .u64 (dgl (q) 1 : Nat), .int .u64 (dgl (q) 2 : Nat), .int .u64 (dgl (q) 3 : Nat), .int .u64 (dgl (q) 4 : Nat), .int .u64 (dgl (q) 5 : Nat), .int .u64 (dgl (q) 6 : Nat), .int .u64 (dgl (q) 7 : Nat)])), (61, .big q 40), (62, .val (.int .i64 (k : Nat))), (63, .val (.int .i64 ((m : Nat) : Int))), (64, .big sq 40), (65, .val (.bool true)), (66, .val (.bool false)), (67, .val (.bool false))]
          (fun W => Ld2St L b off q p5 w W ∧ W.cell? ⟨b, off + k, none⟩ = some (.int .i64 1)) mixedOk (by kernel_rfl) (by kernel_rfl) (⟨h12.1.below (Below.refl _ _).drew, ((Below.refl W12.heap.size W12).drew.cell (p := ⟨b, off + k, none⟩) h12.1.lt).trans h12.2⟩) (fun W W' h hb => ⟨h.1.below hb, (hb.cell (p := ⟨b, off + k, none⟩) h.1.lt).trans h.2⟩) ?_ ?_
        · refine gSt (gStep_run rfl (gRun_move 3 42 (.inl rfl) rfl (by decide +kernel) (fun v w h => h))) ?_
          refine gSt (gStep_run rfl (gRun_move 7 43 (.inl rfl) rfl (by decide +kernel) (fun v w h => h))) ?_
          refine gSt (gStep_run rfl ?_) ?_
          · intro ρ W hC hc hf hL
            have e42 : ρ (.tmp 42) = .slice (some ⟨b, off, none⟩) 128 cap := hL 42 (by decide +kernel)
            have e43 : ρ (.tmp 43) = .int .i64 (k : Nat) := hL 43 (by decide +kernel)
            have hkl : (k : Int) < 128 := by have := HK.out; omega
            have hk0 : (0 : Int) ≤ (k : Int) := by omega
            simp [go_sem, hc, hf, e42, e43, hkl, hk0]
            exact ⟨Below.refl _ _, rfl⟩
          refine gSt (gStep_run rfl ?_) ?_
          · intro ρ W hC hc hf hL
            have e44 : ρ (.tmp 44) = .pointer (some ⟨b, off + k, none⟩) := hL 44 (by decide +kernel)
            have hl := hC.2
            simp [go_sem, hc, hf, e44, hl]
            exact ⟨Below.refl _ _, rfl⟩
          refine gSt (gStep_run rfl ?_) ?_
          · intro ρ W hC hc hf hL
            have e45 : ρ (.tmp 45) = .int .i64 1 := hL 45 (by decide +kernel)
            simp [go_sem, hc, hf, e45]
            exact ⟨Below.refl _ _, rfl⟩
          refine gSt (gStep_run rfl (gRun_move 46 47 (.inl rfl) rfl (by decide +kernel) (fun v w h => h))) ?_
          refine gSt (gStep_on 5 47 false rfl rfl (by decide +kernel) (fun v w h => h) (gRun_move 3 48 (.inl rfl) rfl (by decide +kernel) (fun v w h => h))) ?_
          refine gSt (gStep_on 5 47 false rfl rfl (by decide +kernel) (fun v w h => h) (gRun_move 7 49 (.inl rfl) rfl (by decide +kernel) (fun v w h => h))) ?_
          refine gSt (gStep_on 5 47 false rfl rfl (by decide +kernel) (fun v w h => h) ?_) ?_
          · intro ρ W hC hc hf hL
            have e48 : ρ (.tmp 48) = .slice (some ⟨b, off, none⟩) 128 cap := hL 48 (by decide +kernel)
            have e49 : ρ (.tmp 49) = .int .i64 (k : Nat) := hL 49 (by decide +kernel)
            have hkl : (k : Int) < 128 := by have := HK.out; omega
            have hk0 : (0 : Int) ≤ (k : Int) := by omega
            simp [go_sem, hc, hf, e48, e49, hkl, hk0]
            exact ⟨Below.refl _ _, rfl⟩
          refine gSt (gStep_on 5 47 false rfl rfl (by decide +kernel) (fun v w h => h) ?_) ?_
          · intro ρ W hC hc hf hL
            have e50 : ρ (.tmp 50) = .pointer (some ⟨b, off + k, none⟩) := hL 50 (by decide +kernel)
            have hl := hC.2
            simp [go_sem, hc, hf, e50, hl]
            exact ⟨Below.refl _ _, rfl⟩
          refine gSt (gStep_on 5 47 false rfl rfl (by decide +kernel) (fun v w h => h) ?_) ?_
          · intro ρ W hC hc hf hL
            have e51 : ρ (.tmp 51) = .int .i64 1 := hL 51 (by decide +kernel)
            simp [go_sem, hc, hf, e51]
            exact ⟨Below.refl _ _, rfl⟩
          refine gSt (gStep_run rfl (gRun_pickCF 47 52 53 _ rfl rfl (by decide +kernel) (by decide +kernel) (fun v w h => h) (fun v w h => h))) ?_
          refine gSt (gStep_run rfl (gRun_move 53 54 (.inl rfl) rfl (by decide +kernel) (fun v w h => h))) ?_
          refine gSt (gStep_on 12 54 false rfl rfl (by decide +kernel) (fun v w h => h) (gRun_move 3 55 (.inl rfl) rfl (by decide +kernel) (fun v w h => h))) ?_
          refine gSt (gStep_on 12 54 false rfl rfl (by decide +kernel) (fun v w h => h) (gRun_move 7 56 (.inl rfl) rfl (by decide +kernel) (fun v w h => h))) ?_
          refine gSt (gStep_on 12 54 false rfl rfl (by decide +kernel) (fun v w h => h) ?_) ?_
          · intro ρ W hC hc hf hL
            have e55 : ρ (.tmp 55) = .slice (some ⟨b, off, none⟩) 128 cap := hL 55 (by decide +kernel)
            have e56 : ρ (.tmp 56) = .int .i64 (k : Nat) := hL 56 (by decide +kernel)
            have hkl : (k : Int) < 128 := by have := HK.out; omega
            have hk0 : (0 : Int) ≤ (k : Int) := by omega
            simp [go_sem, hc, hf, e55, e56, hkl, hk0]
            exact ⟨Below.refl _ _, rfl⟩
          refine gSt (gStep_on 12 54 false rfl rfl (by decide +kernel) (fun v w h => h) ?_) ?_
          · intro ρ W hC hc hf hL
            have e57 : ρ (.tmp 57) = .pointer (some ⟨b, off + k, none⟩) := hL 57 (by decide +kernel)
            have hl := hC.2
            simp [go_sem, hc, hf, e57, hl]
            exact ⟨Below.refl _ _, rfl⟩
          refine gSt (gStep_on 12 54 false rfl rfl (by decide +kernel) (fun v w h => h) ?_) ?_
          · intro ρ W hC hc hf hL
            have e58 : ρ (.tmp 58) = .int .i64 1 := hL 58 (by decide +kernel)
            simp [go_sem, hc, hf, e58]
            exact ⟨Below.refl _ _, rfl⟩
          refine gSt (gStep_on 12 54 false rfl rfl (by decide +kernel) (fun v w h => h) ?_) ?_
          · intro ρ W hC hc hf hL
            have e5 : ρ (.tmp 5) = .pointer (some ⟨p5, 0, none⟩) := hL 5 (by decide +kernel)
            have hl := hC.1.l5.1
            simp [go_sem, hc, hf, e5, hl]
            exact ⟨Below.refl _ _, rfl⟩
          refine gSt (gStep_on 12 54 false rfl rfl (by decide +kernel) (fun v w h => h) ?_) ?_
          · intro ρ W hC hc hf hL
            have e60 : ρ (.tmp 60) = .agg #[.int .u64 (dgl (q) 0 : Nat), .int .u64 (dgl (q) 1 : Nat), .int .u64 (dgl (q) 2 : Nat), .int .u64 (dgl (q) 3 : Nat), .int .u64 (dgl (q) 4 : Nat), .int .u64 (dgl (q) 5 : Nat), .int .u64 (dgl (q) 6 : Nat), .int .u64 (dgl (q) 7 : Nat)] := hL 60 (by decide +kernel)
            simp [go_sem, hc, hf, e60]
            refine (HBQ.out W).mono ?_
            rintro e w' ⟨v, rfl, hv, hb⟩
            exact ⟨_, rfl, hb, hv⟩
          refine gSt (gStep_on 12 54 false rfl rfl (by decide +kernel) (fun v w h => h) (gRun_move 7 62 (.inl rfl) rfl (by decide +kernel) (fun v w h => h))) ?_
          refine gSt (gStep_on 12 54 false rfl rfl (by decide +kernel) (fun v w h => h) ?_) ?_
          · intro ρ W hC hc hf hL
            have e62 : ρ (.tmp 62) = .int .i64 (k : Nat) := hL 62 (by decide +kernel)
            have hsb : IntKind.i64.wrap (127 - (k : Int)) = ((m : Nat) : Int) := HSB.out.1
            simp [go_sem, hc, hf, e62, hsb]
            exact ⟨Below.refl _ _, rfl⟩
          refine gSt (gStep_on 12 54 false rfl rfl (by decide +kernel) (fun v w h => h) ?_) ?_
          · intro ρ W hC hc hf hL
            have b61 : BigV W (ρ (.tmp 61)) (q) (40) := hL 61 (by decide +kernel)
            have e63 : ρ (.tmp 63) = .int .i64 ((m : Nat) : Int) := hL 63 (by decide +kernel)
            simp [go_sem, hc, hf, e63]
            refine (HSR.out _ W b61).mono ?_
            rintro e w' ⟨v, rfl, hv, hb⟩
            exact ⟨_, rfl, hb, hv⟩
          refine gSt (gStep_on 12 54 false rfl rfl (by decide +kernel) (fun v w h => h) ?_) ?_
          · intro ρ W hC hc hf hL
            have b64 : BigV W (ρ (.tmp 64)) (sq) (40) := hL 64 (by decide +kernel)
            simp [go_sem, hc, hf]
            refine (HOE.out _ W b64).mono ?_
            rintro e w' ⟨rfl, hb⟩
            exact ⟨_, rfl, by first | exact hb | (subst hb; exact Below.refl _ _), rfl⟩
          refine gSt (gStep_on 12 54 false rfl rfl (by decide +kernel) (fun v w h => h) ?_) ?_
          · intro ρ W hC hc hf hL
            have e59 : ρ (.tmp 59) = .bool true := hL 59 (by decide +kernel)
            have e65 : ρ (.tmp 65) = .bool true := hL 65 (by decide +kernel)
            simp [go_sem, hc, hf, e59, e65]
            exact ⟨Below.refl _ _, rfl⟩
          refine gSt (gStep_run rfl (gRun_pickCF 54 66 67 _ rfl rfl (by decide +kernel) (by decide +kernel) (fun v w h => h) (fun v w h => h))) ?_
          exact gSt0
        · intro W hC
          refine gFi 42 rfl ?_
          rintro _ rfl
          refine gFi 43 rfl ?_
          rintro _ rfl
          refine gFi 44 rfl ?_
          rintro _ rfl
          refine gFi 45 rfl ?_
          rintro _ rfl
          refine gFi 46 rfl ?_
          rintro _ rfl
          refine gFi 47 rfl ?_
          rintro _ rfl
          refine gFi 48 rfl ?_
          rintro _ rfl
          refine gFi 49 rfl ?_
          rintro _ rfl
          refine gFi 50 rfl ?_
          rintro _ rfl
          refine gFi 51 rfl ?_
          rintro _ rfl
          refine gFi 52 rfl ?_
          rintro _ rfl
          refine gFi 53 rfl ?_
          rintro _ rfl
          refine gFi 54 rfl ?_
          rintro _ rfl
          refine gFi 55 rfl ?_
          rintro _ rfl
          refine gFi 56 rfl ?_
          rintro _ rfl
          refine gFi 57 rfl ?_
          rintro _ rfl
          refine gFi 58 rfl ?_
          rintro _ rfl
          refine gFi 59 rfl ?_
          rintro _ rfl
          refine gFi 60 rfl ?_
          rintro _ rfl
          refine gFi 61 rfl ?_
          rintro u61 b61
          refine gFi 62 rfl ?_
          rintro _ rfl
          refine gFi 63 rfl ?_
          rintro _ rfl
          refine gFi 64 rfl ?_
          rintro u64 b64
          refine gFi 65 rfl ?_
          rintro _ rfl
          refine gFi 66 rfl ?_
          rintro _ rfl
          refine gFi 67 rfl ?_
          rintro _ rfl
          refine gFi0 ?_
          simp only [List.drop_succ_cons, List.drop_zero, Act.put, List.setIfInBounds_toArray, List.set_cons_succ, List.set_cons_zero]
          have HS9 := hide hC.1
          clear hC hw0
          have hw1 : IntKind.i64.wrap ((k : Int) + 1) = ((k + 1 : Nat) : Int) := by rw [IntKind.wrap_i64]; omega
          go_wp2
          go_roundw
          case rel => exact ⟨k + 1, by omega, by go_num, HS9⟩
          case measure => simp [intOf]; omega
    · have hk2 : k = 128 := by omega
      subst hk2
      have HS9 := hst
      clear hst
      go_wp2_with fail
      refine (HAW.out _).mono ?_
      rintro e' w9 ⟨rfl, hb9⟩
      have HB := hide (below_trans HS9.out.bel hb9)
      clear HS9 hb9
      go_wp2
      go_ret
      exact ⟨rfl, HB.out⟩

theorem root2Digits_walk (n : Nat) (hnq : n < QQ) (w : World) : Calls Try.prog 9 #[.agg #[.int .u64 (dgl (n) 0 : Nat), .int .u64 (dgl (n) 1 : Nat), .int .u64 (dgl (n) 2 : Nat), .int .u64 (dgl (n) 3 : Nat), .int .u64 (dgl (n) 4 : Nat), .int .u64 (dgl (n) 5 : Nat), .int .u64 (dgl (n) 6 : Nat), .int .u64 (dgl (n) 7 : Nat)]] w fun e w' => e = .returned (.bool true) ∧ Below w.heap.size w w' := by
  have HM := fun w => rmay12_any n hnq w
  by_cases hn : n < 2 ^ 256
  · obtain ⟨S, hs⟩ := root_ex 2 (by decide) n
    rw [decide_eq_true hn] at HM
    have hS := sq_le n S hs hn
    have hSq : S < QQ := Nat.lt_trans hS (by decide +kernel)
    exact rlaw_Y n S (n - S ^ 2) (fun w => pdig2_Y n S (n - S ^ 2) hSq (fun w => root_ok n S hn hs w) w) HM (fun w => refRoot_any n 2 S hnq (by decide) (by decide) hs (Nat.lt_of_lt_of_le hS (Nat.pow_le_pow_right (by decide) (by decide))) w) (fun w => refBig_any S hSq w) (fun w => awake12_any w) w
  · rw [decide_eq_false hn] at HM
    exact rlaw_E n (fun w => pdig2_E n (fun w => root_err n hnq hn w) w) HM (fun w => awake12_any w) w

end Go.Proofs.Ytmbbhagjfgjhgaa

/- For all wides the law radicandlaw12.Root2Digits returns true, and its argument reads afterwards as it read before. No condition. -/
namespace Go.Proofs.Ytmbbhagjfgjhgaa.root2Digits
open Go.ChangeShapes Go.WideShapes Go.ChangeAt Go.RowKit Go.Proofs.Ytmbbhagjfgjhgaa

theorem own : ownKnob Try.prog.godebug = none := by kernel_rfl
theorem laidOut : laidOutB Try.prog = true := by kernel_rfl

set_option maxRecDepth 100000 in
theorem lifted (os : Os) (started : os.Started) (H : Type) (enc : TypeId × Value → H) :
    ReturnsInHanded {} Try.checked os 9 .any (Rows.root2DigitsSpec.pre6 enc Try.prog Try.f9 Rows.root2DigitsRow.domain false) (Rows.root2DigitsSpec.post enc Try.prog Try.f9 false true false false) := by
  refine returnsInHanded_of_change (C := Try.checked) own started (by kernel_rfl) Try.func9
    (ChangeSpec.witness6 (enc := enc) (C := Try.checked) false ⟨#[], #[.agg #[.int .u64 0, .int .u64 0, .int .u64 0, .int .u64 0, .int .u64 0, .int .u64 0, .int .u64 0, .int .u64 0]], []⟩ 40 (by kernel_rfl) (by kernel_rfl) (by kernel_rfl) (by kernel_rfl)) ?_
  intro W base args ds gs before hval0 hW hcnd _
  have hval : ∀ (j : Nat) t v, Try.f9.params[j]? = some t → args[j]? = some v → Value.okWide Try.prog W .any base t v := hval0
  have hW' := hW
  obtain ⟨p, q, hA0, hV, rfl, hfz, hnd⟩ := hW
  have hA : DataW.TrodAll enc Try.prog W 0 (fun _ => true) true Try.f9.params.toList args.toList ds p := hA0
  rw [Try.params9] at hA hval
  obtain ⟨v0, vs0, d0, ds0, p0, q0, hargs, rfl, rfl, h0, r0⟩ := trodAll_cons hA
  obtain ⟨rfl, rfl, rfl⟩ := trodAll_nil r0
  obtain rfl : args = #[v0] := by cases args; simp_all
  obtain ⟨rfl, rfl⟩ := trodVars_none hV
  have k0 := h0
  have lt0 : ∀ x ∈ p0, x.block < W.heap.size := by obtain ⟨m, hm⟩ := k0; exact DataW.trod_lt m _ _ _ hm
  obtain ⟨x0, hx0, rfl⟩ := wide_of_trod (hval 0 24 v0 rfl rfl) h0
  clear hA0 hval0
  refine (root2Digits_walk x0 hx0 W).mono fun e W' ⟨he, bel⟩ => ?_
  subst he
  exact ⟨_, rfl, _, _, _, [], _, [], hW', trodAll_mk1 (shut_bool Try.underlying4 _), (trodAll_cons_mk (Below.trod laidOut (by kernel_rfl) (of_decide_eq_true (by kernel_rfl)) k0 bel lt0) trodAll_mk0), rfl, bel.frame _, fun h => by cases h⟩

theorem over : Rows.root2DigitsRow.holds Try.pinned (OpenSpec.ofChange Rows.root2DigitsSpec) :=
  OpenClaim.holds_of_wide 9 Try.f9 rfl rfl rfl rfl rfl rfl rfl ⟨rfl, rfl, rfl, rfl, rfl⟩ rfl rfl rfl rfl rfl (by kernel_rfl) Try.func9 (by kernel_rfl)
    (of_decide_eq_true (by kernel_rfl)) (by unfold Func.isWrapper; first | (rw [if_pos (by decide +kernel)]; kernel_rfl) | (rw [if_neg (by decide +kernel)]; exact ⟨rfl, rfl⟩))
    (fun os started H enc _ => lifted os started H enc)

theorem proved : Rows.Root2DigitsSaid := over
#print axioms proved
end Go.Proofs.Ytmbbhagjfgjhgaa.root2Digits

