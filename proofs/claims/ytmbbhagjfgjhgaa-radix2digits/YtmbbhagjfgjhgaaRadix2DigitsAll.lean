/- For all wides the law radicandlaw11.Radix2Digits returns true, and its arguments read afterwards as they read before. No condition. -/
import Derived.Test.YtmbbhagjfgjhgaaPartAO
import Derived.Test.YtmbbhagjfgjhgaaRows
import Derived.WalkKit
import Derived.ProofKit
import Derived.OpenShut
import Derived.ShutString
import Derived.ChangeOld
import Derived.Below
/- For all wides the law radicandlaw11.Radix2Digits returns true. -/
set_option linter.unusedVariables false
set_option linter.unusedSimpArgs false
set_option maxRecDepth 8000
namespace Go.Proofs.Ytmbbhagjfgjhgaa
open Go.RowKit Plain

/-- A list of 128 digits, and a big number. -/
structure LdSt (L : List Nat) (b off q : Nat) (u : Value) (w W : World) : Prop where
  c : ∀ i, i < 128 → W.cell? ⟨b, off + i, none⟩ = some (mkI (dg L i))
  lt : b < W.heap.size
  bg : BigV W u q 40
  bel : Below w.heap.size w W
theorem LdSt.below {L : List Nat} {b off q : Nat} {u : Value} {w W W' : World} (h : LdSt L b off q u w W) (hb : Below W.heap.size W W') : LdSt L b off q u w W' :=
  ⟨fun i hi => (hb.cell (p := ⟨b, off + i, none⟩) h.lt).trans (h.c i hi), Nat.lt_of_lt_of_le h.lt hb.size, h.bg.below hb, below_trans h.bel hb⟩
theorem rd128 {W : World} {v : Value} {L : List Nat} (h : Rd mkI W v L) (hl : L.length = 128) : ∃ b off cap, v = .slice (some ⟨b, off, none⟩) 128 cap ∧ b < W.heap.size ∧ ∀ i, i < 128 → W.cell? ⟨b, off + i, none⟩ = some (mkI (dg L i)) := by
  obtain ⟨ao, cap, rfl, h1, h2, h3⟩ := h
  rw [hl] at h3 ⊢
  rcases h3 with h3 | ⟨b, off, rfl, h4, h5⟩
  · omega
  · exact ⟨b, off, cap, rfl, h4, h5⟩
/-- The index's own checks. -/
theorem rd_below {mk : Nat → Value} {w w' : World} {v : Value} {l : List Nat} (h : Rd mk w v l) (hb : Below w.heap.size w w') : Rd mk w' v l := h.below hb

set_option maxHeartbeats 2000000 in
theorem dlaw_E (n d : Nat) (m : Int) (hm : (m == 0) = false)
    (HD : Hid (∀ w, Calls Try.prog 18 #[.agg #[.int .u64 (dgl (n) 0 : Nat), .int .u64 (dgl (n) 1 : Nat), .int .u64 (dgl (n) 2 : Nat), .int .u64 (dgl (n) 3 : Nat), .int .u64 (dgl (n) 4 : Nat), .int .u64 (dgl (n) 5 : Nat), .int .u64 (dgl (n) 6 : Nat), .int .u64 (dgl (n) 7 : Nat)], .agg #[.int .u64 (dgl (d) 0 : Nat), .int .u64 (dgl (d) 1 : Nat), .int .u64 (dgl (d) 2 : Nat), .int .u64 (dgl (d) 3 : Nat), .int .u64 (dgl (d) 4 : Nat), .int .u64 (dgl (d) 5 : Nat), .int .u64 (dgl (d) 6 : Nat), .int .u64 (dgl (d) 7 : Nat)]] w fun e w' => e = .returned (.tuple #[.slice none 0 0, .int .i64 m]) ∧ Below w.heap.size w w'))
    (HM : Hid (∀ w, Calls Try.prog 15 #[.agg #[.int .u64 (dgl (n) 0 : Nat), .int .u64 (dgl (n) 1 : Nat), .int .u64 (dgl (n) 2 : Nat), .int .u64 (dgl (n) 3 : Nat), .int .u64 (dgl (n) 4 : Nat), .int .u64 (dgl (n) 5 : Nat), .int .u64 (dgl (n) 6 : Nat), .int .u64 (dgl (n) 7 : Nat)], .agg #[.int .u64 (dgl (d) 0 : Nat), .int .u64 (dgl (d) 1 : Nat), .int .u64 (dgl (d) 2 : Nat), .int .u64 (dgl (d) 3 : Nat), .int .u64 (dgl (d) 4 : Nat), .int .u64 (dgl (d) 5 : Nat), .int .u64 (dgl (d) 6 : Nat), .int .u64 (dgl (d) 7 : Nat)]] w fun e w' => e = .returned (.int .i64 m) ∧ Below w.heap.size w w'))
    (HAW : Hid (∀ w, Calls Try.prog 17 #[] w fun e w' => e = .returned (.bool true) ∧ Below w.heap.size w w')) (w : World) :
    Calls Try.prog 4 #[.agg #[.int .u64 (dgl (n) 0 : Nat), .int .u64 (dgl (n) 1 : Nat), .int .u64 (dgl (n) 2 : Nat), .int .u64 (dgl (n) 3 : Nat), .int .u64 (dgl (n) 4 : Nat), .int .u64 (dgl (n) 5 : Nat), .int .u64 (dgl (n) 6 : Nat), .int .u64 (dgl (n) 7 : Nat)], .agg #[.int .u64 (dgl (d) 0 : Nat), .int .u64 (dgl (d) 1 : Nat), .int .u64 (dgl (d) 2 : Nat), .int .u64 (dgl (d) 3 : Nat), .int .u64 (dgl (d) 4 : Nat), .int .u64 (dgl (d) 5 : Nat), .int .u64 (dgl (d) 6 : Nat), .int .u64 (dgl (d) 7 : Nat)]] w fun e w' => e = .returned (.bool true) ∧ Below w.heap.size w w' := by
  have HS := hide (twSt_start n d w 24 24)
  go_enter Try.func4, Try.ntmps4
  have hca := HS.out.la.1
  have hcb := HS.out.lb.1
  go_wp2_with fail
  refine (HD.out _).mono ?_
  rintro e' w1 ⟨rfl, hb1⟩
  replace HS := hide (HS.out.below hb1)
  clear hb1 hca hcb
  have hca := HS.out.la.1
  have hcb := HS.out.lb.1
  go_wp2_with fail
  refine (HM.out _).mono ?_
  rintro e' w2 ⟨rfl, hb2⟩
  replace HS := hide (HS.out.below hb2)
  clear hb2 hca hcb
  go_wp2_with fail
  refine (HAW.out _).mono ?_
  rintro e' w3 ⟨rfl, hb3⟩
  replace HS := hide (HS.out.below hb3)
  clear hb3
  have HB := hide HS.out.bel
  clear HS
  go_wp2
  go_ret
  exact ⟨rfl, HB.out⟩

set_option maxHeartbeats 4000000 in
theorem dlaw_Y (n d q r : Nat) (L : List Nat) (HL : Hid (L.length = 128)) (HDG : Hid (∀ k, k < 128 → dg L k = q / 2 ^ (127 - k) % 2))
    (HD : Hid (∀ w, Calls Try.prog 18 #[.agg #[.int .u64 (dgl (n) 0 : Nat), .int .u64 (dgl (n) 1 : Nat), .int .u64 (dgl (n) 2 : Nat), .int .u64 (dgl (n) 3 : Nat), .int .u64 (dgl (n) 4 : Nat), .int .u64 (dgl (n) 5 : Nat), .int .u64 (dgl (n) 6 : Nat), .int .u64 (dgl (n) 7 : Nat)], .agg #[.int .u64 (dgl (d) 0 : Nat), .int .u64 (dgl (d) 1 : Nat), .int .u64 (dgl (d) 2 : Nat), .int .u64 (dgl (d) 3 : Nat), .int .u64 (dgl (d) 4 : Nat), .int .u64 (dgl (d) 5 : Nat), .int .u64 (dgl (d) 6 : Nat), .int .u64 (dgl (d) 7 : Nat)]] w fun e w' => ∃ v, e = .returned (.tuple #[v, .int .i64 0]) ∧ Rd mkI w' v L ∧ Below w.heap.size w w'))
    (HM : Hid (∀ w, Calls Try.prog 15 #[.agg #[.int .u64 (dgl (n) 0 : Nat), .int .u64 (dgl (n) 1 : Nat), .int .u64 (dgl (n) 2 : Nat), .int .u64 (dgl (n) 3 : Nat), .int .u64 (dgl (n) 4 : Nat), .int .u64 (dgl (n) 5 : Nat), .int .u64 (dgl (n) 6 : Nat), .int .u64 (dgl (n) 7 : Nat)], .agg #[.int .u64 (dgl (d) 0 : Nat), .int .u64 (dgl (d) 1 : Nat), .int .u64 (dgl (d) 2 : Nat), .int .u64 (dgl (d) 3 : Nat), .int .u64 (dgl (d) 4 : Nat), .int .u64 (dgl (d) 5 : Nat), .int .u64 (dgl (d) 6 : Nat), .int .u64 (dgl (d) 7 : Nat)]] w fun e w' => e = .returned (.int .i64 0) ∧ Below w.heap.size w w'))
    (HDV : Hid (∀ w, Calls Try.prog 19 #[.agg #[.int .u64 (dgl (n) 0 : Nat), .int .u64 (dgl (n) 1 : Nat), .int .u64 (dgl (n) 2 : Nat), .int .u64 (dgl (n) 3 : Nat), .int .u64 (dgl (n) 4 : Nat), .int .u64 (dgl (n) 5 : Nat), .int .u64 (dgl (n) 6 : Nat), .int .u64 (dgl (n) 7 : Nat)], .agg #[.int .u64 (dgl (d) 0 : Nat), .int .u64 (dgl (d) 1 : Nat), .int .u64 (dgl (d) 2 : Nat), .int .u64 (dgl (d) 3 : Nat), .int .u64 (dgl (d) 4 : Nat), .int .u64 (dgl (d) 5 : Nat), .int .u64 (dgl (d) 6 : Nat), .int .u64 (dgl (d) 7 : Nat)]] w fun e w' => e = .returned (.tuple #[.agg #[.int .u64 (dgl (q) 0 : Nat), .int .u64 (dgl (q) 1 : Nat), .int .u64 (dgl (q) 2 : Nat), .int .u64 (dgl (q) 3 : Nat), .int .u64 (dgl (q) 4 : Nat), .int .u64 (dgl (q) 5 : Nat), .int .u64 (dgl (q) 6 : Nat), .int .u64 (dgl (q) 7 : Nat)], .agg #[.int .u64 (dgl (r) 0 : Nat), .int .u64 (dgl (r) 1 : Nat), .int .u64 (dgl (r) 2 : Nat), .int .u64 (dgl (r) 3 : Nat), .int .u64 (dgl (r) 4 : Nat), .int .u64 (dgl (r) 5 : Nat), .int .u64 (dgl (r) 6 : Nat), .int .u64 (dgl (r) 7 : Nat)]]) ∧ Below w.heap.size w w'))
    (HBQ : Hid (∀ w, Calls Try.prog 20 #[.agg #[.int .u64 (dgl (q) 0 : Nat), .int .u64 (dgl (q) 1 : Nat), .int .u64 (dgl (q) 2 : Nat), .int .u64 (dgl (q) 3 : Nat), .int .u64 (dgl (q) 4 : Nat), .int .u64 (dgl (q) 5 : Nat), .int .u64 (dgl (q) 6 : Nat), .int .u64 (dgl (q) 7 : Nat)]] w fun e w' => ∃ v, e = .returned v ∧ BigV w' v q 40 ∧ Below w.heap.size w w'))
    (HAW : Hid (∀ w, Calls Try.prog 17 #[] w fun e w' => e = .returned (.bool true) ∧ Below w.heap.size w w')) (w : World) :
    Calls Try.prog 4 #[.agg #[.int .u64 (dgl (n) 0 : Nat), .int .u64 (dgl (n) 1 : Nat), .int .u64 (dgl (n) 2 : Nat), .int .u64 (dgl (n) 3 : Nat), .int .u64 (dgl (n) 4 : Nat), .int .u64 (dgl (n) 5 : Nat), .int .u64 (dgl (n) 6 : Nat), .int .u64 (dgl (n) 7 : Nat)], .agg #[.int .u64 (dgl (d) 0 : Nat), .int .u64 (dgl (d) 1 : Nat), .int .u64 (dgl (d) 2 : Nat), .int .u64 (dgl (d) 3 : Nat), .int .u64 (dgl (d) 4 : Nat), .int .u64 (dgl (d) 5 : Nat), .int .u64 (dgl (d) 6 : Nat), .int .u64 (dgl (d) 7 : Nat)]] w fun e w' => e = .returned (.bool true) ∧ Below w.heap.size w w' := by
  have HS := hide (twSt_start n d w 24 24)
  go_enter Try.func4, Try.ntmps4
  have hca := HS.out.la.1
  have hcb := HS.out.lb.1
  go_wp2_with fail
  refine (HD.out _).mono ?_
  rintro e' w1 ⟨v, rfl, hrd, hb1⟩
  obtain ⟨b, off, cap, rfl, hbl, hcl⟩ := rd128 hrd HL.out
  replace HS := hide (show TwSt n d w w1 ∧ b < w1.heap.size ∧ ∀ i, i < 128 → w1.cell? ⟨b, off + i, none⟩ = some (mkI (dg L i)) from ⟨HS.out.below hb1, hbl, hcl⟩)
  clear hb1 hca hcb hrd hbl hcl HD
  have hca := HS.out.1.la.1
  have hcb := HS.out.1.lb.1
  go_wp2_with fail
  refine (HM.out _).mono ?_
  rintro e' w2 ⟨rfl, hb2⟩
  replace HS := hide (show TwSt n d w w2 ∧ b < w2.heap.size ∧ ∀ i, i < 128 → w2.cell? ⟨b, off + i, none⟩ = some (mkI (dg L i)) from ⟨HS.out.1.below hb2, Nat.lt_of_lt_of_le HS.out.2.1 hb2.size, fun i hi => (hb2.cell (p := ⟨b, off + i, none⟩) HS.out.2.1).trans (HS.out.2.2 i hi)⟩)
  clear hb2 hca hcb
  have hca := HS.out.1.la.1
  have hcb := HS.out.1.lb.1
  go_wp2_with fail
  refine (HDV.out _).mono ?_
  rintro e' w3 ⟨rfl, hb3⟩
  replace HS := hide (show TwSt n d w w3 ∧ b < w3.heap.size ∧ ∀ i, i < 128 → w3.cell? ⟨b, off + i, none⟩ = some (mkI (dg L i)) from ⟨HS.out.1.below hb3, Nat.lt_of_lt_of_le HS.out.2.1 hb3.size, fun i hi => (hb3.cell (p := ⟨b, off + i, none⟩) HS.out.2.1).trans (HS.out.2.2 i hi)⟩)
  clear hb3 hca hcb
  go_upto_region 6 with fail
  have hbw := below_trans (below_allocs w3 (.cells #[.int .u64 (dgl (q) 0 : Nat), .int .u64 (dgl (q) 1 : Nat), .int .u64 (dgl (q) 2 : Nat), .int .u64 (dgl (q) 3 : Nat), .int .u64 (dgl (q) 4 : Nat), .int .u64 (dgl (q) 5 : Nat), .int .u64 (dgl (q) 6 : Nat), .int .u64 (dgl (q) 7 : Nat)] 24)) (below_allocs _ (.cells #[.int .u64 (dgl (r) 0 : Nat), .int .u64 (dgl (r) 1 : Nat), .int .u64 (dgl (r) 2 : Nat), .int .u64 (dgl (r) 3 : Nat), .int .u64 (dgl (r) 4 : Nat), .int .u64 (dgl (r) 5 : Nat), .int .u64 (dgl (r) 6 : Nat), .int .u64 (dgl (r) 7 : Nat)] 24))
  refine wp_gen (fun W => R2St w3.heap.size (w3.heap.size + 1) q r w W ∧ b < W.heap.size ∧ ∀ i, i < 128 → W.cell? ⟨b, off + i, none⟩ = some (mkI (dg L i))) ⟨r2_put w w3 q r HS.out.1.bel _ _, Nat.lt_of_lt_of_le HS.out.2.1 hbw.size, fun i hi => (hbw.cell (p := ⟨b, off + i, none⟩) HS.out.2.1).trans (HS.out.2.2 i hi)⟩ ?_
  clear HS hbw
  rintro W6 h6
  have HS := hide h6
  have hcq := h6.1.lx.1
  clear h6
  go_wp2_with fail
  refine (HBQ.out _).mono ?_
  rintro e' w7 ⟨u, rfl, hu, hb7⟩
  have HS7 : Hid (LdSt L b off q u w w7) := ⟨fun i hi => (hb7.cell (p := ⟨b, off + i, none⟩) HS.out.2.1).trans (HS.out.2.2 i hi), Nat.lt_of_lt_of_le HS.out.2.1 hb7.size, hu, below_trans HS.out.1.bel hb7⟩
  clear HS hb7 hu hcq
  go_wp2
  go_loopw [11] (fun i wr => ∃ k : Nat, k ≤ 128 ∧ i = .int .i64 (k : Nat) ∧ Hid (LdSt L b off q u w wr))
    (fun i _ => 128 - (intOf i).toNat)
  case atStart => exact ⟨0, by omega, rfl, HS7⟩
  case round =>
    clear HS7
    obtain ⟨k, hk, rfl, hst⟩ := hrel
    by_cases hlt : k < 128
    · have hj : (k : Int) < 128 := by omega
      have HK := hide hlt
      obtain ⟨m, hm⟩ : ∃ m, 127 - k = m := ⟨_, rfl⟩
      have HSB : Hid (IntKind.i64.wrap (127 - (k : Int)) = ((m : Nat) : Int) ∧ 127 - (k : Int) = ((m : Nat) : Int)) := by unfold Hid; rw [IntKind.wrap_i64]; omega
      have hdg := HDG.out k hlt
      rw [hm] at hdg
      have hb2 := bitN_cases q m
      have HM9 : Hid (m ≤ 127) := by unfold Hid; omega
      have hcl := hst.out.c k hlt
      have HSR : Hid (∀ u w, BigV w u q 40 → Calls Try.prog 22 #[u, .int .i64 (m : Nat)] w fun e w' => ∃ v', e = .returned v' ∧ BigV w' v' (q / 2 ^ m) 40 ∧ Below w.heap.size w w') := fun u w hu => refShr_any q 40 m u w hu (by decide) (by have := HM9.out; omega)
      have HOD : Hid (∀ u w, BigV w u (q / 2 ^ m) 40 → Calls Try.prog 21 #[u] w fun e w' => e = .returned (.bool (q / 2 ^ m % 2 == 1)) ∧ w' = w) := fun u w hu => refOdd_any _ 40 u w hu
      generalize q / 2 ^ m = sq at *
      clear hm
      rcases hb2 with h0 | h0
      · rw [h0] at hdg HOD
        rw [hdg] at hcl
        have HC := hide hcl
        have HOE : Hid (∀ u w, BigV w u sq 40 → Calls Try.prog 21 #[u] w fun e w' => e = .returned (.bool false) ∧ w' = w) := HOD.out
        clear HOD h0 hdg hcl
        have hw0 : Hid (LdSt L b off q u w wr) := hst
        go_upto_region 12 with fail
        refine wp_gen (fun W => LdSt L b off q u w W ∧ W.cell? ⟨b, off + k, none⟩ = some (.int .i64 0)) ⟨hst.out, HC.out⟩ ?_
        rintro W12 h12
        clear HC hst
        refine wp_region_grow 25 [(53, .val (.slice (some ⟨b, off, none⟩) 128 cap)), (54, .val (.int .i64 (k : Nat))), (55, .val (.pointer (some ⟨b, off + k, none⟩))), (56, .val (.int .i64 0)), (57, .val (.bool false)), (58, .val (.bool false)), (59, .val (.slice (some ⟨b, off, none⟩) 128 cap)), (60, .val (.int .i64 (k : Nat))), (61, .val (.pointer (some ⟨b, off + k, none⟩))), (62, .val (.int .i64 0)), (63, .val (.bool false)), (64, .val (.bool false)), (65, .val (.bool false)), (66, .val (.slice (some ⟨b, off, none⟩) 128 cap)), (67, .val (.int .i64 (k : Nat))), (68, .val (.pointer (some ⟨b, off + k, none⟩))), (69, .val (.int .i64 0)), (70, .val (.bool false)), (71, .val (u)), (72, .val (.int .i64 (k : Nat))), (73, .val (.int .i64 ((m : Nat) : Int))), (74, .big sq 40), (75, .val (.bool false)), (76, .val (.bool false)), (77, .val (.bool false))]
          (fun W => LdSt L b off q u w W ∧ W.cell? ⟨b, off + k, none⟩ = some (.int .i64 0)) mixedOk (by kernel_rfl) (by kernel_rfl) (⟨h12.1.below (Below.refl _ _).drew, ((Below.refl W12.heap.size W12).drew.cell (p := ⟨b, off + k, none⟩) h12.1.lt).trans h12.2⟩) (fun W W' h hb => ⟨h.1.below hb, (hb.cell (p := ⟨b, off + k, none⟩) h.1.lt).trans h.2⟩) ?_ ?_
        · refine gSt (gStep_run rfl (gRun_move 5 53 (.inl rfl) rfl (by decide +kernel) (fun v w h => h))) ?_
          refine gSt (gStep_run rfl (gRun_move 11 54 (.inl rfl) rfl (by decide +kernel) (fun v w h => h))) ?_
          refine gSt (gStep_run rfl ?_) ?_
          · intro ρ W hC hc hf hL
            have e53 : ρ (.tmp 53) = .slice (some ⟨b, off, none⟩) 128 cap := hL 53 (by decide +kernel)
            have e54 : ρ (.tmp 54) = .int .i64 (k : Nat) := hL 54 (by decide +kernel)
            have hkl : (k : Int) < 128 := by have := HK.out; omega
            have hk0 : (0 : Int) ≤ (k : Int) := by omega
            simp [go_sem, hc, hf, e53, e54, hkl, hk0]
            exact ⟨Below.refl _ _, rfl⟩
          refine gSt (gStep_run rfl ?_) ?_
          · intro ρ W hC hc hf hL
            have e55 : ρ (.tmp 55) = .pointer (some ⟨b, off + k, none⟩) := hL 55 (by decide +kernel)
            have hl := hC.2
            simp [go_sem, hc, hf, e55, hl]
            exact ⟨Below.refl _ _, rfl⟩
          refine gSt (gStep_run rfl ?_) ?_
          · intro ρ W hC hc hf hL
            have e56 : ρ (.tmp 56) = .int .i64 0 := hL 56 (by decide +kernel)
            simp [go_sem, hc, hf, e56]
            exact ⟨Below.refl _ _, rfl⟩
          refine gSt (gStep_run rfl (gRun_move 57 58 (.inl rfl) rfl (by decide +kernel) (fun v w h => h))) ?_
          refine gSt (gStep_on 5 58 false rfl rfl (by decide +kernel) (fun v w h => h) (gRun_move 5 59 (.inl rfl) rfl (by decide +kernel) (fun v w h => h))) ?_
          refine gSt (gStep_on 5 58 false rfl rfl (by decide +kernel) (fun v w h => h) (gRun_move 11 60 (.inl rfl) rfl (by decide +kernel) (fun v w h => h))) ?_
          refine gSt (gStep_on 5 58 false rfl rfl (by decide +kernel) (fun v w h => h) ?_) ?_
          · intro ρ W hC hc hf hL
            have e59 : ρ (.tmp 59) = .slice (some ⟨b, off, none⟩) 128 cap := hL 59 (by decide +kernel)
            have e60 : ρ (.tmp 60) = .int .i64 (k : Nat) := hL 60 (by decide +kernel)
            have hkl : (k : Int) < 128 := by have := HK.out; omega
            have hk0 : (0 : Int) ≤ (k : Int) := by omega
            simp [go_sem, hc, hf, e59, e60, hkl, hk0]
            exact ⟨Below.refl _ _, rfl⟩
          refine gSt (gStep_on 5 58 false rfl rfl (by decide +kernel) (fun v w h => h) ?_) ?_
          · intro ρ W hC hc hf hL
            have e61 : ρ (.tmp 61) = .pointer (some ⟨b, off + k, none⟩) := hL 61 (by decide +kernel)
            have hl := hC.2
            simp [go_sem, hc, hf, e61, hl]
            exact ⟨Below.refl _ _, rfl⟩
          refine gSt (gStep_on 5 58 false rfl rfl (by decide +kernel) (fun v w h => h) ?_) ?_
          · intro ρ W hC hc hf hL
            have e62 : ρ (.tmp 62) = .int .i64 0 := hL 62 (by decide +kernel)
            simp [go_sem, hc, hf, e62]
            exact ⟨Below.refl _ _, rfl⟩
          refine gSt (gStep_run rfl (gRun_pickCF 58 63 64 _ rfl rfl (by decide +kernel) (by decide +kernel) (fun v w h => h) (fun v w h => h))) ?_
          refine gSt (gStep_run rfl (gRun_move 64 65 (.inl rfl) rfl (by decide +kernel) (fun v w h => h))) ?_
          refine gSt (gStep_on 12 65 false rfl rfl (by decide +kernel) (fun v w h => h) (gRun_move 5 66 (.inl rfl) rfl (by decide +kernel) (fun v w h => h))) ?_
          refine gSt (gStep_on 12 65 false rfl rfl (by decide +kernel) (fun v w h => h) (gRun_move 11 67 (.inl rfl) rfl (by decide +kernel) (fun v w h => h))) ?_
          refine gSt (gStep_on 12 65 false rfl rfl (by decide +kernel) (fun v w h => h) ?_) ?_
          · intro ρ W hC hc hf hL
            have e66 : ρ (.tmp 66) = .slice (some ⟨b, off, none⟩) 128 cap := hL 66 (by decide +kernel)
            have e67 : ρ (.tmp 67) = .int .i64 (k : Nat) := hL 67 (by decide +kernel)
            have hkl : (k : Int) < 128 := by have := HK.out; omega
            have hk0 : (0 : Int) ≤ (k : Int) := by omega
            simp [go_sem, hc, hf, e66, e67, hkl, hk0]
            exact ⟨Below.refl _ _, rfl⟩
          refine gSt (gStep_on 12 65 false rfl rfl (by decide +kernel) (fun v w h => h) ?_) ?_
          · intro ρ W hC hc hf hL
            have e68 : ρ (.tmp 68) = .pointer (some ⟨b, off + k, none⟩) := hL 68 (by decide +kernel)
            have hl := hC.2
            simp [go_sem, hc, hf, e68, hl]
            exact ⟨Below.refl _ _, rfl⟩
          refine gSt (gStep_on 12 65 false rfl rfl (by decide +kernel) (fun v w h => h) ?_) ?_
          · intro ρ W hC hc hf hL
            have e69 : ρ (.tmp 69) = .int .i64 0 := hL 69 (by decide +kernel)
            simp [go_sem, hc, hf, e69]
            exact ⟨Below.refl _ _, rfl⟩
          refine gSt (gStep_on 12 65 false rfl rfl (by decide +kernel) (fun v w h => h) (gRun_move 10 71 (.inl rfl) rfl (by decide +kernel) (fun v w h => h))) ?_
          refine gSt (gStep_on 12 65 false rfl rfl (by decide +kernel) (fun v w h => h) (gRun_move 11 72 (.inl rfl) rfl (by decide +kernel) (fun v w h => h))) ?_
          refine gSt (gStep_on 12 65 false rfl rfl (by decide +kernel) (fun v w h => h) ?_) ?_
          · intro ρ W hC hc hf hL
            have e72 : ρ (.tmp 72) = .int .i64 (k : Nat) := hL 72 (by decide +kernel)
            have hsb : IntKind.i64.wrap (127 - (k : Int)) = ((m : Nat) : Int) := HSB.out.1
            simp [go_sem, hc, hf, e72, hsb]
            exact ⟨Below.refl _ _, rfl⟩
          refine gSt (gStep_on 12 65 false rfl rfl (by decide +kernel) (fun v w h => h) ?_) ?_
          · intro ρ W hC hc hf hL
            have e71 : ρ (.tmp 71) = u := hL 71 (by decide +kernel)
            have e73 : ρ (.tmp 73) = .int .i64 ((m : Nat) : Int) := hL 73 (by decide +kernel)
            simp [go_sem, hc, hf, e71, e73]
            refine (HSR.out _ W (hC.1.bg)).mono ?_
            rintro e w' ⟨v, rfl, hv, hb⟩
            exact ⟨_, rfl, hb, hv⟩
          refine gSt (gStep_on 12 65 false rfl rfl (by decide +kernel) (fun v w h => h) ?_) ?_
          · intro ρ W hC hc hf hL
            have b74 : BigV W (ρ (.tmp 74)) (sq) (40) := hL 74 (by decide +kernel)
            simp [go_sem, hc, hf]
            refine (HOE.out _ W b74).mono ?_
            rintro e w' ⟨rfl, hb⟩
            exact ⟨_, rfl, by first | exact hb | (subst hb; exact Below.refl _ _), rfl⟩
          refine gSt (gStep_on 12 65 false rfl rfl (by decide +kernel) (fun v w h => h) ?_) ?_
          · intro ρ W hC hc hf hL
            have e70 : ρ (.tmp 70) = .bool false := hL 70 (by decide +kernel)
            have e75 : ρ (.tmp 75) = .bool false := hL 75 (by decide +kernel)
            simp [go_sem, hc, hf, e70, e75]
            exact ⟨Below.refl _ _, rfl⟩
          refine gSt (gStep_run rfl (gRun_pickCF 65 76 77 _ rfl rfl (by decide +kernel) (by decide +kernel) (fun v w h => h) (fun v w h => h))) ?_
          exact gSt0
        · intro W hC
          refine gFi 53 rfl ?_
          rintro _ rfl
          refine gFi 54 rfl ?_
          rintro _ rfl
          refine gFi 55 rfl ?_
          rintro _ rfl
          refine gFi 56 rfl ?_
          rintro _ rfl
          refine gFi 57 rfl ?_
          rintro _ rfl
          refine gFi 58 rfl ?_
          rintro _ rfl
          refine gFi 59 rfl ?_
          rintro _ rfl
          refine gFi 60 rfl ?_
          rintro _ rfl
          refine gFi 61 rfl ?_
          rintro _ rfl
          refine gFi 62 rfl ?_
          rintro _ rfl
          refine gFi 63 rfl ?_
          rintro _ rfl
          refine gFi 64 rfl ?_
          rintro _ rfl
          refine gFi 65 rfl ?_
          rintro _ rfl
          refine gFi 66 rfl ?_
          rintro _ rfl
          refine gFi 67 rfl ?_
          rintro _ rfl
          refine gFi 68 rfl ?_
          rintro _ rfl
          refine gFi 69 rfl ?_
          rintro _ rfl
          refine gFi 70 rfl ?_
          rintro _ rfl
          refine gFi 71 rfl ?_
          rintro _ rfl
          refine gFi 72 rfl ?_
          rintro _ rfl
          refine gFi 73 rfl ?_
          rintro _ rfl
          refine gFi 74 rfl ?_
          rintro u74 b74
          refine gFi 75 rfl ?_
          rintro _ rfl
          refine gFi 76 rfl ?_
          rintro _ rfl
          refine gFi 77 rfl ?_
          rintro _ rfl
          refine gFi0 ?_
          simp only [List.drop_succ_cons, List.drop_zero, Act.put, List.setIfInBounds_toArray, List.set_cons_succ, List.set_cons_zero]
          have HS9 := hide hC.1
          clear hC hw0
          have hw1 : IntKind.i64.wrap ((k : Int) + 1) = ((k + 1 : Nat) : Int) := by rw [IntKind.wrap_i64]; omega
          go_wp2
          go_roundw
          case rel => exact ⟨k + 1, by omega, by go_num, HS9⟩
          case measure => simp [intOf]; omega
      · rw [h0] at hdg HOD
        rw [hdg] at hcl
        have HC := hide hcl
        have HOE : Hid (∀ u w, BigV w u sq 40 → Calls Try.prog 21 #[u] w fun e w' => e = .returned (.bool true) ∧ w' = w) := HOD.out
        clear HOD h0 hdg hcl
        have hw0 : Hid (LdSt L b off q u w wr) := hst
        go_upto_region 12 with fail
        refine wp_gen (fun W => LdSt L b off q u w W ∧ W.cell? ⟨b, off + k, none⟩ = some (.int .i64 1)) ⟨hst.out, HC.out⟩ ?_
        rintro W12 h12
        clear HC hst
        refine wp_region_grow 25 [(53, .val (.slice (some ⟨b, off, none⟩) 128 cap)), (54, .val (.int .i64 (k : Nat))), (55, .val (.pointer (some ⟨b, off + k, none⟩))), (56, .val (.int .i64 1)), (57, .val (.bool false)), (58, .val (.bool false)), (59, .val (.slice (some ⟨b, off, none⟩) 128 cap)), (60, .val (.int .i64 (k : Nat))), (61, .val (.pointer (some ⟨b, off + k, none⟩))), (62, .val (.int .i64 1)), (63, .val (.bool false)), (64, .val (.bool false)), (65, .val (.bool false)), (66, .val (.slice (some ⟨b, off, none⟩) 128 cap)), (67, .val (.int .i64 (k : Nat))), (68, .val (.pointer (some ⟨b, off + k, none⟩))), (69, .val (.int .i64 1)), (70, .val (.bool true)), (71, .val (u)), (72, .val (.int .i64 (k : Nat))), (73, .val (.int .i64 ((m : Nat) : Int))), (74, .big sq 40), (75, .val (.bool true)), (76, .val (.bool false)), (77, .val (.bool false))]
          (fun W => LdSt L b off q u w W ∧ W.cell? ⟨b, off + k, none⟩ = some (.int .i64 1)) mixedOk (by kernel_rfl) (by kernel_rfl) (⟨h12.1.below (Below.refl _ _).drew, ((Below.refl W12.heap.size W12).drew.cell (p := ⟨b, off + k, none⟩) h12.1.lt).trans h12.2⟩) (fun W W' h hb => ⟨h.1.below hb, (hb.cell (p := ⟨b, off + k, none⟩) h.1.lt).trans h.2⟩) ?_ ?_
        · refine gSt (gStep_run rfl (gRun_move 5 53 (.inl rfl) rfl (by decide +kernel) (fun v w h => h))) ?_
          refine gSt (gStep_run rfl (gRun_move 11 54 (.inl rfl) rfl (by decide +kernel) (fun v w h => h))) ?_
          refine gSt (gStep_run rfl ?_) ?_
          · intro ρ W hC hc hf hL
            have e53 : ρ (.tmp 53) = .slice (some ⟨b, off, none⟩) 128 cap := hL 53 (by decide +kernel)
            have e54 : ρ (.tmp 54) = .int .i64 (k : Nat) := hL 54 (by decide +kernel)
            have hkl : (k : Int) < 128 := by have := HK.out; omega
            have hk0 : (0 : Int) ≤ (k : Int) := by omega
            simp [go_sem, hc, hf, e53, e54, hkl, hk0]
            exact ⟨Below.refl _ _, rfl⟩
          refine gSt (gStep_run rfl ?_) ?_
          · intro ρ W hC hc hf hL
            have e55 : ρ (.tmp 55) = .pointer (some ⟨b, off + k, none⟩) := hL 55 (by decide +kernel)
            have hl := hC.2
            simp [go_sem, hc, hf, e55, hl]
            exact ⟨Below.refl _ _, rfl⟩
          refine gSt (gStep_run rfl ?_) ?_
          · intro ρ W hC hc hf hL
            have e56 : ρ (.tmp 56) = .int .i64 1 := hL 56 (by decide +kernel)
            simp [go_sem, hc, hf, e56]
            exact ⟨Below.refl _ _, rfl⟩
          refine gSt (gStep_run rfl (gRun_move 57 58 (.inl rfl) rfl (by decide +kernel) (fun v w h => h))) ?_
          refine gSt (gStep_on 5 58 false rfl rfl (by decide +kernel) (fun v w h => h) (gRun_move 5 59 (.inl rfl) rfl (by decide +kernel) (fun v w h => h))) ?_
          refine gSt (gStep_on 5 58 false rfl rfl (by decide +kernel) (fun v w h => h) (gRun_move 11 60 (.inl rfl) rfl (by decide +kernel) (fun v w h => h))) ?_
          refine gSt (gStep_on 5 58 false rfl rfl (by decide +kernel) (fun v w h => h) ?_) ?_
          · intro ρ W hC hc hf hL
            have e59 : ρ (.tmp 59) = .slice (some ⟨b, off, none⟩) 128 cap := hL 59 (by decide +kernel)
            have e60 : ρ (.tmp 60) = .int .i64 (k : Nat) := hL 60 (by decide +kernel)
            have hkl : (k : Int) < 128 := by have := HK.out; omega
            have hk0 : (0 : Int) ≤ (k : Int) := by omega
            simp [go_sem, hc, hf, e59, e60, hkl, hk0]
            exact ⟨Below.refl _ _, rfl⟩
          refine gSt (gStep_on 5 58 false rfl rfl (by decide +kernel) (fun v w h => h) ?_) ?_
          · intro ρ W hC hc hf hL
            have e61 : ρ (.tmp 61) = .pointer (some ⟨b, off + k, none⟩) := hL 61 (by decide +kernel)
            have hl := hC.2
            simp [go_sem, hc, hf, e61, hl]
            exact ⟨Below.refl _ _, rfl⟩
          refine gSt (gStep_on 5 58 false rfl rfl (by decide +kernel) (fun v w h => h) ?_) ?_
          · intro ρ W hC hc hf hL
            have e62 : ρ (.tmp 62) = .int .i64 1 := hL 62 (by decide +kernel)
            simp [go_sem, hc, hf, e62]
            exact ⟨Below.refl _ _, rfl⟩
          refine gSt (gStep_run rfl (gRun_pickCF 58 63 64 _ rfl rfl (by decide +kernel) (by decide +kernel) (fun v w h => h) (fun v w h => h))) ?_
          refine gSt (gStep_run rfl (gRun_move 64 65 (.inl rfl) rfl (by decide +kernel) (fun v w h => h))) ?_
          refine gSt (gStep_on 12 65 false rfl rfl (by decide +kernel) (fun v w h => h) (gRun_move 5 66 (.inl rfl) rfl (by decide +kernel) (fun v w h => h))) ?_
          refine gSt (gStep_on 12 65 false rfl rfl (by decide +kernel) (fun v w h => h) (gRun_move 11 67 (.inl rfl) rfl (by decide +kernel) (fun v w h => h))) ?_
          refine gSt (gStep_on 12 65 false rfl rfl (by decide +kernel) (fun v w h => h) ?_) ?_
          · intro ρ W hC hc hf hL
            have e66 : ρ (.tmp 66) = .slice (some ⟨b, off, none⟩) 128 cap := hL 66 (by decide +kernel)
            have e67 : ρ (.tmp 67) = .int .i64 (k : Nat) := hL 67 (by decide +kernel)
            have hkl : (k : Int) < 128 := by have := HK.out; omega
            have hk0 : (0 : Int) ≤ (k : Int) := by omega
            simp [go_sem, hc, hf, e66, e67, hkl, hk0]
            exact ⟨Below.refl _ _, rfl⟩
          refine gSt (gStep_on 12 65 false rfl rfl (by decide +kernel) (fun v w h => h) ?_) ?_
          · intro ρ W hC hc hf hL
            have e68 : ρ (.tmp 68) = .pointer (some ⟨b, off + k, none⟩) := hL 68 (by decide +kernel)
            have hl := hC.2
            simp [go_sem, hc, hf, e68, hl]
            exact ⟨Below.refl _ _, rfl⟩
          refine gSt (gStep_on 12 65 false rfl rfl (by decide +kernel) (fun v w h => h) ?_) ?_
          · intro ρ W hC hc hf hL
            have e69 : ρ (.tmp 69) = .int .i64 1 := hL 69 (by decide +kernel)
            simp [go_sem, hc, hf, e69]
            exact ⟨Below.refl _ _, rfl⟩
          refine gSt (gStep_on 12 65 false rfl rfl (by decide +kernel) (fun v w h => h) (gRun_move 10 71 (.inl rfl) rfl (by decide +kernel) (fun v w h => h))) ?_
          refine gSt (gStep_on 12 65 false rfl rfl (by decide +kernel) (fun v w h => h) (gRun_move 11 72 (.inl rfl) rfl (by decide +kernel) (fun v w h => h))) ?_
          refine gSt (gStep_on 12 65 false rfl rfl (by decide +kernel) (fun v w h => h) ?_) ?_
          · intro ρ W hC hc hf hL
            have e72 : ρ (.tmp 72) = .int .i64 (k : Nat) := hL 72 (by decide +kernel)
            have hsb : IntKind.i64.wrap (127 - (k : Int)) = ((m : Nat) : Int) := HSB.out.1
            simp [go_sem, hc, hf, e72, hsb]
            exact ⟨Below.refl _ _, rfl⟩
          refine gSt (gStep_on 12 65 false rfl rfl (by decide +kernel) (fun v w h => h) ?_) ?_
          · intro ρ W hC hc hf hL
            have e71 : ρ (.tmp 71) = u := hL 71 (by decide +kernel)
            have e73 : ρ (.tmp 73) = .int .i64 ((m : Nat) : Int) := hL 73 (by decide +kernel)
            simp [go_sem, hc, hf, e71, e73]
            refine (HSR.out _ W (hC.1.bg)).mono ?_
            rintro e w' ⟨v, rfl, hv, hb⟩
            exact ⟨_, rfl, hb, hv⟩
          refine gSt (gStep_on 12 65 false rfl rfl (by decide +kernel) (fun v w h => h) ?_) ?_
          · intro ρ W hC hc hf hL
            have b74 : BigV W (ρ (.tmp 74)) (sq) (40) := hL 74 (by decide +kernel)
            simp [go_sem, hc, hf]
            refine (HOE.out _ W b74).mono ?_
            rintro e w' ⟨rfl, hb⟩
            exact ⟨_, rfl, by first | exact hb | (subst hb; exact Below.refl _ _), rfl⟩
          refine gSt (gStep_on 12 65 false rfl rfl (by decide +kernel) (fun v w h => h) ?_) ?_
          · intro ρ W hC hc hf hL
            have e70 : ρ (.tmp 70) = .bool true := hL 70 (by decide +kernel)
            have e75 : ρ (.tmp 75) = .bool true := hL 75 (by decide +kernel)
            simp [go_sem, hc, hf, e70, e75]
            exact ⟨Below.refl _ _, rfl⟩
          refine gSt (gStep_run rfl (gRun_pickCF 65 76 77 _ rfl rfl (by decide +kernel) (by decide +kernel) (fun v w h => h) (fun v w h => h))) ?_
          exact gSt0
        · intro W hC
          refine gFi 53 rfl ?_
          rintro _ rfl
          refine gFi 54 rfl ?_
          rintro _ rfl
          refine gFi 55 rfl ?_
          rintro _ rfl
          refine gFi 56 rfl ?_
          rintro _ rfl
          refine gFi 57 rfl ?_
          rintro _ rfl
          refine gFi 58 rfl ?_
          rintro _ rfl
          refine gFi 59 rfl ?_
          rintro _ rfl
          refine gFi 60 rfl ?_
          rintro _ rfl
          refine gFi 61 rfl ?_
          rintro _ rfl
          refine gFi 62 rfl ?_
          rintro _ rfl
          refine gFi 63 rfl ?_
          rintro _ rfl
          refine gFi 64 rfl ?_
          rintro _ rfl
          refine gFi 65 rfl ?_
          rintro _ rfl
          refine gFi 66 rfl ?_
          rintro _ rfl
          refine gFi 67 rfl ?_
          rintro _ rfl
          refine gFi 68 rfl ?_
          rintro _ rfl
          refine gFi 69 rfl ?_
          rintro _ rfl
          refine gFi 70 rfl ?_
          rintro _ rfl
          refine gFi 71 rfl ?_
          rintro _ rfl
          refine gFi 72 rfl ?_
          rintro _ rfl
          refine gFi 73 rfl ?_
          rintro _ rfl
          refine gFi 74 rfl ?_
          rintro u74 b74
          refine gFi 75 rfl ?_
          rintro _ rfl
          refine gFi 76 rfl ?_
          rintro _ rfl
          refine gFi 77 rfl ?_
          rintro _ rfl
          refine gFi0 ?_
          simp only [List.drop_succ_cons, List.drop_zero, Act.put, List.setIfInBounds_toArray, List.set_cons_succ, List.set_cons_zero]
          have HS9 := hide hC.1
          clear hC hw0
          have hw1 : IntKind.i64.wrap ((k : Int) + 1) = ((k + 1 : Nat) : Int) := by rw [IntKind.wrap_i64]; omega
          go_wp2
          go_roundw
          case rel => exact ⟨k + 1, by omega, by go_num, HS9⟩
          case measure => simp [intOf]; omega
    · have hk2 : k = 128 := by omega
      subst hk2
      have HS9 := hst
      clear hst
      go_wp2_with fail
      refine (HAW.out _).mono ?_
      rintro e' w9 ⟨rfl, hb9⟩
      have HB := hide (below_trans HS9.out.bel hb9)
      clear HS9 hb9
      go_wp2
      go_ret
      exact ⟨rfl, HB.out⟩

theorem radix2Digits_walk (n d : Nat) (hn : n < QQ) (hd : d < QQ) (w : World) :
    Calls Try.prog 4 #[.agg #[.int .u64 (dgl (n) 0 : Nat), .int .u64 (dgl (n) 1 : Nat), .int .u64 (dgl (n) 2 : Nat), .int .u64 (dgl (n) 3 : Nat), .int .u64 (dgl (n) 4 : Nat), .int .u64 (dgl (n) 5 : Nat), .int .u64 (dgl (n) 6 : Nat), .int .u64 (dgl (n) 7 : Nat)], .agg #[.int .u64 (dgl (d) 0 : Nat), .int .u64 (dgl (d) 1 : Nat), .int .u64 (dgl (d) 2 : Nat), .int .u64 (dgl (d) 3 : Nat), .int .u64 (dgl (d) 4 : Nat), .int .u64 (dgl (d) 5 : Nat), .int .u64 (dgl (d) 6 : Nat), .int .u64 (dgl (d) 7 : Nat)]] w fun e w' => e = .returned (.bool true) ∧ Below w.heap.size w w' := by
  have HM := fun w => rmay_any n d hn hd w
  by_cases hm : mayN n d = 0
  · rw [hm] at HM
    have hz := mayN_zero hm
    exact dlaw_Y n d (n / d) (n % d) (digL (n / d) 0) (digL_len _ 0) (fun k hk => digL_get _ k hk) (fun w => digits_ok n d hn hd hm w) HM
      (fun w => refDivide_any n d hn hd hz.1 (Nat.lt_of_lt_of_le (may_quo hm) (Nat.pow_le_pow_right (by decide) (by decide))) w) (fun w => refBig_any _ (Nat.lt_of_le_of_lt (Nat.div_le_self _ _) hn) w) (fun w => awake11_any w) w
  · exact dlaw_E n d _ (by rw [beq_eq_false_iff_ne]; omega) (fun w => digits_err n d hn hd hm w) HM (fun w => awake11_any w) w

end Go.Proofs.Ytmbbhagjfgjhgaa

/- For all wides the law radicandlaw11.Radix2Digits returns true, and its arguments read afterwards as they read before. No condition. -/
namespace Go.Proofs.Ytmbbhagjfgjhgaa.radix2Digits
open Go.ChangeShapes Go.WideShapes Go.ChangeAt Go.RowKit Go.Proofs.Ytmbbhagjfgjhgaa

theorem own : ownKnob Try.prog.godebug = none := by kernel_rfl
theorem laidOut : laidOutB Try.prog = true := by kernel_rfl

set_option maxRecDepth 100000 in
theorem lifted (os : Os) (started : os.Started) (H : Type) (enc : TypeId × Value → H) :
    ReturnsInHanded {} Try.checked os 4 .any (Rows.radix2DigitsSpec.pre6 enc Try.prog Try.f4 Rows.radix2DigitsRow.domain false) (Rows.radix2DigitsSpec.post enc Try.prog Try.f4 false true false false) := by
  refine returnsInHanded_of_change (C := Try.checked) own started (by kernel_rfl) Try.func4
    (ChangeSpec.witness6 (enc := enc) (C := Try.checked) false ⟨#[], #[.agg #[.int .u64 0, .int .u64 0, .int .u64 0, .int .u64 0, .int .u64 0, .int .u64 0, .int .u64 0, .int .u64 0], .agg #[.int .u64 0, .int .u64 0, .int .u64 0, .int .u64 0, .int .u64 0, .int .u64 0, .int .u64 0, .int .u64 0]], []⟩ 40 (by kernel_rfl) (by kernel_rfl) (by kernel_rfl) (by kernel_rfl)) ?_
  intro W base args ds gs before hval0 hW hcnd _
  have hval : ∀ (j : Nat) t v, Try.f4.params[j]? = some t → args[j]? = some v → Value.okWide Try.prog W .any base t v := hval0
  have hW' := hW
  obtain ⟨p, q, hA0, hV, rfl, hfz, hnd⟩ := hW
  have hA : DataW.TrodAll enc Try.prog W 0 (fun _ => true) true Try.f4.params.toList args.toList ds p := hA0
  rw [Try.params4] at hA hval
  obtain ⟨v0, vs0, d0, ds0, p0, q0, hargs, rfl, rfl, h0, r0⟩ := trodAll_cons hA
  obtain ⟨v1, vs1, d1, ds1, p1, q1, rfl, rfl, rfl, h1, r1⟩ := trodAll_cons r0
  obtain ⟨rfl, rfl, rfl⟩ := trodAll_nil r1
  obtain rfl : args = #[v0, v1] := by cases args; simp_all
  obtain ⟨rfl, rfl⟩ := trodVars_none hV
  have k0 := h0
  have lt0 : ∀ x ∈ p0, x.block < W.heap.size := by obtain ⟨m, hm⟩ := k0; exact DataW.trod_lt m _ _ _ hm
  have k1 := h1
  have lt1 : ∀ x ∈ p1, x.block < W.heap.size := by obtain ⟨m, hm⟩ := k1; exact DataW.trod_lt m _ _ _ hm
  obtain ⟨x0, hx0, rfl⟩ := wide_of_trod (hval 0 24 v0 rfl rfl) h0
  obtain ⟨x1, hx1, rfl⟩ := wide_of_trod (hval 1 24 v1 rfl rfl) h1
  clear hA0 hval0
  refine (radix2Digits_walk x0 x1 hx0 hx1 W).mono fun e W' ⟨he, bel⟩ => ?_
  subst he
  exact ⟨_, rfl, _, _, _, [], _, [], hW', trodAll_mk1 (shut_bool Try.underlying4 _), (trodAll_cons_mk (Below.trod laidOut (by kernel_rfl) (of_decide_eq_true (by kernel_rfl)) k0 bel lt0) (trodAll_cons_mk (Below.trod laidOut (by kernel_rfl) (of_decide_eq_true (by kernel_rfl)) k1 bel lt1) trodAll_mk0)), rfl, bel.frame _, fun h => by cases h⟩

theorem over : Rows.radix2DigitsRow.holds Try.pinned (OpenSpec.ofChange Rows.radix2DigitsSpec) :=
  OpenClaim.holds_of_wide 4 Try.f4 rfl rfl rfl rfl rfl rfl rfl ⟨rfl, rfl, rfl, rfl, rfl⟩ rfl rfl rfl rfl rfl (by kernel_rfl) Try.func4 (by kernel_rfl)
    (of_decide_eq_true (by kernel_rfl)) (by unfold Func.isWrapper; first | (rw [if_pos (by decide +kernel)]; kernel_rfl) | (rw [if_neg (by decide +kernel)]; exact ⟨rfl, rfl⟩))
    (fun os started H enc _ => lifted os started H enc)

theorem proved : Rows.Radix2DigitsSaid := over
#print axioms proved
end Go.Proofs.Ytmbbhagjfgjhgaa.radix2Digits

