/- Contracts and laws: ProdF, ProdG, ProdJ, GrowK, GrowJ, RdxB, GrowL, WideT. -/
import Derived.Test.YteocibahclpegaaPartAM
import Derived.Deep.DeepCutAuto
import Derived.Test.YteocibahclpegaaPartAB
import Derived.Test.YteocibahclpegaaPartAH
/- Contracts: prod.High. -/
set_option linter.unusedVariables false
set_option linter.unusedSimpArgs false
set_option maxRecDepth 8000
namespace Go.Proofs.Yteocibahclpegaa
open Go.RowKit Plain

set_option maxHeartbeats 4000000 in
theorem prodHigh_low (fa fb : Nat → Nat) (S H q k : Nat) (n : Int) (s : Nat) (rest : Bool) (w : World) (hk5 : k ≤ 512)
    (HSHR : Hid (∀ w, Calls Try.prog 75 #[.agg #[.int .u64 (dgl (S) 0 : Nat), .int .u64 (dgl (S) 1 : Nat), .int .u64 (dgl (S) 2 : Nat), .int .u64 (dgl (S) 3 : Nat), .int .u64 (dgl (S) 4 : Nat), .int .u64 (dgl (S) 5 : Nat), .int .u64 (dgl (S) 6 : Nat), .int .u64 (dgl (S) 7 : Nat)], .int .i64 (k : Nat)] w fun e w' => e = .returned (.tuple #[.agg #[.int .u64 (dgl (q) 0 : Nat), .int .u64 (dgl (q) 1 : Nat), .int .u64 (dgl (q) 2 : Nat), .int .u64 (dgl (q) 3 : Nat), .int .u64 (dgl (q) 4 : Nat), .int .u64 (dgl (q) 5 : Nat), .int .u64 (dgl (q) 6 : Nat), .int .u64 (dgl (q) 7 : Nat)], .bool rest]) ∧ Below w.heap.size w w'))
    (HSHL : Hid (∀ w, Calls Try.prog 78 #[.agg #[.int .u64 (dgl (H) 0 : Nat), .int .u64 (dgl (H) 1 : Nat), .int .u64 (dgl (H) 2 : Nat), .int .u64 (dgl (H) 3 : Nat), .int .u64 (dgl (H) 4 : Nat), .int .u64 (dgl (H) 5 : Nat), .int .u64 (dgl (H) 6 : Nat), .int .u64 (dgl (H) 7 : Nat)], .int .i64 (512 - (k : Int))] w fun e w' => e = .returned (.agg #[.int .u64 (dgl (s) 0 : Nat), .int .u64 (dgl (s) 1 : Nat), .int .u64 (dgl (s) 2 : Nat), .int .u64 (dgl (s) 3 : Nat), .int .u64 (dgl (s) 4 : Nat), .int .u64 (dgl (s) 5 : Nat), .int .u64 (dgl (s) 6 : Nat), .int .u64 (dgl (s) 7 : Nat)]) ∧ Below w.heap.size w w'))
    (HSU : Hid (∀ v w, RdW w v [q, s] → Calls Try.prog 85 #[v] w fun e w' => e = .returned (.agg #[.int .u64 (dgl (q + s) 0 : Nat), .int .u64 (dgl (q + s) 1 : Nat), .int .u64 (dgl (q + s) 2 : Nat), .int .u64 (dgl (q + s) 3 : Nat), .int .u64 (dgl (q + s) 4 : Nat), .int .u64 (dgl (q + s) 5 : Nat), .int .u64 (dgl (q + s) 6 : Nat), .int .u64 (dgl (q + s) 7 : Nat)]) ∧ Below w.heap.size w w'))
    (HK : Hid ((k : Int) = max n 0))
    (HSUM : Hid (∀ w, Calls Try.prog 81 #[.agg #[.int .u64 (fa 0 : Nat), .int .u64 (fa 1 : Nat), .int .u64 (fa 2 : Nat), .int .u64 (fa 3 : Nat), .int .u64 (fa 4 : Nat), .int .u64 (fa 5 : Nat), .int .u64 (fa 6 : Nat), .int .u64 (fa 7 : Nat)], .agg #[.int .u64 (fb 0 : Nat), .int .u64 (fb 1 : Nat), .int .u64 (fb 2 : Nat), .int .u64 (fb 3 : Nat), .int .u64 (fb 4 : Nat), .int .u64 (fb 5 : Nat), .int .u64 (fb 6 : Nat), .int .u64 (fb 7 : Nat)], .func (.func 82) #[] #[]] w fun e w' => e = .returned (.agg #[.int .u64 (dgl (S) 0 : Nat), .int .u64 (dgl (S) 1 : Nat), .int .u64 (dgl (S) 2 : Nat), .int .u64 (dgl (S) 3 : Nat), .int .u64 (dgl (S) 4 : Nat), .int .u64 (dgl (S) 5 : Nat), .int .u64 (dgl (S) 6 : Nat), .int .u64 (dgl (S) 7 : Nat), .int .u64 (dgl (S) 8 : Nat), .int .u64 (dgl (S) 9 : Nat), .int .u64 (dgl (S) 10 : Nat), .int .u64 (dgl (S) 11 : Nat), .int .u64 (dgl (S) 12 : Nat), .int .u64 (dgl (S) 13 : Nat), .int .u64 (dgl (S) 14 : Nat), .int .u64 (dgl (S) 15 : Nat)]) ∧ Below w.heap.size w w'))
    (HHAL : Hid (∀ w, Calls Try.prog 80 #[.agg #[.int .u64 (dgl (S) 0 : Nat), .int .u64 (dgl (S) 1 : Nat), .int .u64 (dgl (S) 2 : Nat), .int .u64 (dgl (S) 3 : Nat), .int .u64 (dgl (S) 4 : Nat), .int .u64 (dgl (S) 5 : Nat), .int .u64 (dgl (S) 6 : Nat), .int .u64 (dgl (S) 7 : Nat), .int .u64 (dgl (S) 8 : Nat), .int .u64 (dgl (S) 9 : Nat), .int .u64 (dgl (S) 10 : Nat), .int .u64 (dgl (S) 11 : Nat), .int .u64 (dgl (S) 12 : Nat), .int .u64 (dgl (S) 13 : Nat), .int .u64 (dgl (S) 14 : Nat), .int .u64 (dgl (S) 15 : Nat)]] w fun e w' => e = .returned (.tuple #[.agg #[.int .u64 (dgl (S) 0 : Nat), .int .u64 (dgl (S) 1 : Nat), .int .u64 (dgl (S) 2 : Nat), .int .u64 (dgl (S) 3 : Nat), .int .u64 (dgl (S) 4 : Nat), .int .u64 (dgl (S) 5 : Nat), .int .u64 (dgl (S) 6 : Nat), .int .u64 (dgl (S) 7 : Nat)], .agg #[.int .u64 (dgl (H) 0 : Nat), .int .u64 (dgl (H) 1 : Nat), .int .u64 (dgl (H) 2 : Nat), .int .u64 (dgl (H) 3 : Nat), .int .u64 (dgl (H) 4 : Nat), .int .u64 (dgl (H) 5 : Nat), .int .u64 (dgl (H) 6 : Nat), .int .u64 (dgl (H) 7 : Nat)]]) ∧ Below w.heap.size w w')) :
    Calls Try.prog 63 #[.agg #[.int .u64 (fa 0 : Nat), .int .u64 (fa 1 : Nat), .int .u64 (fa 2 : Nat), .int .u64 (fa 3 : Nat), .int .u64 (fa 4 : Nat), .int .u64 (fa 5 : Nat), .int .u64 (fa 6 : Nat), .int .u64 (fa 7 : Nat)], .agg #[.int .u64 (fb 0 : Nat), .int .u64 (fb 1 : Nat), .int .u64 (fb 2 : Nat), .int .u64 (fb 3 : Nat), .int .u64 (fb 4 : Nat), .int .u64 (fb 5 : Nat), .int .u64 (fb 6 : Nat), .int .u64 (fb 7 : Nat)], .int .i64 n] w fun e w' => e = .returned (.tuple #[.agg #[.int .u64 (dgl (q + s) 0 : Nat), .int .u64 (dgl (q + s) 1 : Nat), .int .u64 (dgl (q + s) 2 : Nat), .int .u64 (dgl (q + s) 3 : Nat), .int .u64 (dgl (q + s) 4 : Nat), .int .u64 (dgl (q + s) 5 : Nat), .int .u64 (dgl (q + s) 6 : Nat), .int .u64 (dgl (q + s) 7 : Nat)], .bool rest]) ∧ Below w.heap.size w w' := by
  have HS0 : Hid (ResSt w (w.heap.size + 1 + 1) (fun _ => 0) (((w.alloc (.cells #[.int .u64 (fa 0 : Nat), .int .u64 (fa 1 : Nat), .int .u64 (fa 2 : Nat), .int .u64 (fa 3 : Nat), .int .u64 (fa 4 : Nat), .int .u64 (fa 5 : Nat), .int .u64 (fa 6 : Nat), .int .u64 (fa 7 : Nat)] 32)).alloc (.cells #[.int .u64 (fb 0 : Nat), .int .u64 (fb 1 : Nat), .int .u64 (fb 2 : Nat), .int .u64 (fb 3 : Nat), .int .u64 (fb 4 : Nat), .int .u64 (fb 5 : Nat), .int .u64 (fb 6 : Nat), .int .u64 (fb 7 : Nat)] 32)).alloc (.cells #[.int .u64 0, .int .u64 0, .int .u64 0, .int .u64 0, .int .u64 0, .int .u64 0, .int .u64 0, .int .u64 0] 32))) := by
    have h2 := liesF_new ((w.alloc (.cells #[.int .u64 (fa 0 : Nat), .int .u64 (fa 1 : Nat), .int .u64 (fa 2 : Nat), .int .u64 (fa 3 : Nat), .int .u64 (fa 4 : Nat), .int .u64 (fa 5 : Nat), .int .u64 (fa 6 : Nat), .int .u64 (fa 7 : Nat)] 32)).alloc (.cells #[.int .u64 (fb 0 : Nat), .int .u64 (fb 1 : Nat), .int .u64 (fb 2 : Nat), .int .u64 (fb 3 : Nat), .int .u64 (fb 4 : Nat), .int .u64 (fb 5 : Nat), .int .u64 (fb 6 : Nat), .int .u64 (fb 7 : Nat)] 32)) (fun _ => 0) 32
    simp only [World.size_alloc] at h2
    exact ⟨h2, fun i => by simp [go_sem], below_trans (below_trans (below_allocs _ _) (below_allocs _ _)) (below_allocs _ _)⟩
  go_enter Try.func63, Try.ntmps63
  go_wp2_with fail
  refine (HSUM.out _).mono ?_
  rintro e w1 ⟨rfl, hb1⟩
  have HS1 := hide (HS0.out.below hb1)
  clear HS0 hb1
  go_wp2_with fail
  refine (HHAL.out _).mono ?_
  rintro e w2 ⟨rfl, hb2⟩
  have HS2 := hide (HS1.out.below hb2)
  clear HS1 hb2
  go_upto_region 2 with fail
  refine wp_gen (fun W => ResSt w (w.heap.size + 1 + 1) (fun _ => 0) W ∧ LiesF W w2.heap.size (dgl S) ∧ LiesF W (w2.heap.size + 1) (dgl H)) ?_ ?_
  · have h3 := liesF_new (w2.alloc (.cells #[.int .u64 (dgl (S) 0 : Nat), .int .u64 (dgl (S) 1 : Nat), .int .u64 (dgl (S) 2 : Nat), .int .u64 (dgl (S) 3 : Nat), .int .u64 (dgl (S) 4 : Nat), .int .u64 (dgl (S) 5 : Nat), .int .u64 (dgl (S) 6 : Nat), .int .u64 (dgl (S) 7 : Nat)] 32)) (dgl H) 32
    rw [World.size_alloc] at h3
    exact ⟨(HS2.out.below (below_allocs _ _)).below (below_allocs _ _), (liesF_new w2 (dgl S) 32).alloc _, h3⟩
  rintro W2 h2
  have hp8 : w.heap.size + 1 + 1 < w2.heap.size := HS2.out.lr.2
  generalize hp : w2.heap.size = p8 at *
  obtain ⟨p9, hp9⟩ : ∃ p9, p8 + 1 = p9 := ⟨_, rfl⟩
  rw [hp9] at h2 ⊢
  clear HS2 hp
  go_cut [2] (fun x wx => x = .int .i64 (k : Nat) ∧ wx = W2)
  case first =>
    go_wp2
    all_goals
      go_meet
      exact ⟨by rw [HK.out]; first | done | (congr 1; omega), rfl⟩
  case rest =>
    obtain ⟨rfl, rfl⟩ := hcut
    have HS3 := hide h2
    have hsub : IntKind.i64.wrap (512 - (k : Int)) = 512 - (k : Int) := by rw [IntKind.wrap_i64]; omega
    have hk6 : ¬ (512 : Int) < (k : Int) := by omega
    have hcl := h2.2.1.1
    clear h2
    go_wp2_with fail
    refine (HSHR.out _).mono ?_
    rintro e w3 ⟨rfl, hb3⟩
    have HS4 := hide (show ResSt w (w.heap.size + 1 + 1) (fun _ => 0) w3 ∧ LiesF w3 p8 (dgl S) ∧ LiesF w3 p9 (dgl H) from ⟨HS3.out.1.below hb3, HS3.out.2.1.below hb3, HS3.out.2.2.below hb3⟩)
    clear HS3 hb3 hcl
    go_upto_region 7 with fail
    refine wp_gen (fun W => ResSt w (w.heap.size + 1 + 1) (fun _ => 0) W ∧ LiesF W p8 (dgl S) ∧ LiesF W p9 (dgl H) ∧ LiesF W w3.heap.size (dgl q)) ⟨HS4.out.1.below (below_allocs _ _), HS4.out.2.1.alloc _, HS4.out.2.2.alloc _, liesF_new _ _ _⟩ ?_
    rintro W4 h2
    have hp12 : p8 < w3.heap.size := HS4.out.2.1.2
    generalize w3.heap.size = p12 at *
    clear HS4
    refine wp_region_storeG 9 [8] [(45, .val (.agg #[.int .u64 (dgl (q) 0 : Nat), .int .u64 (dgl (q) 1 : Nat), .int .u64 (dgl (q) 2 : Nat), .int .u64 (dgl (q) 3 : Nat), .int .u64 (dgl (q) 4 : Nat), .int .u64 (dgl (q) 5 : Nat), .int .u64 (dgl (q) 6 : Nat), .int .u64 (dgl (q) 7 : Nat)])), (46, .val (.agg #[.int .u64 (dgl (H) 0 : Nat), .int .u64 (dgl (H) 1 : Nat), .int .u64 (dgl (H) 2 : Nat), .int .u64 (dgl (H) 3 : Nat), .int .u64 (dgl (H) 4 : Nat), .int .u64 (dgl (H) 5 : Nat), .int .u64 (dgl (H) 6 : Nat), .int .u64 (dgl (H) 7 : Nat)])), (47, .val (.int .i64 (k : Nat))), (48, .val (.int .i64 (512 - (k : Int)))), (49, .val (.agg #[.int .u64 (dgl (s) 0 : Nat), .int .u64 (dgl (s) 1 : Nat), .int .u64 (dgl (s) 2 : Nat), .int .u64 (dgl (s) 3 : Nat), .int .u64 (dgl (s) 4 : Nat), .int .u64 (dgl (s) 5 : Nat), .int .u64 (dgl (s) 6 : Nat), .int .u64 (dgl (s) 7 : Nat)])), (50, .wides (w.heap.size + 1 + 1) [q, s]), (51, .val (.agg #[.int .u64 (dgl (q + s) 0 : Nat), .int .u64 (dgl (q + s) 1 : Nat), .int .u64 (dgl (q + s) 2 : Nat), .int .u64 (dgl (q + s) 3 : Nat), .int .u64 (dgl (q + s) 4 : Nat), .int .u64 (dgl (q + s) 5 : Nat), .int .u64 (dgl (q + s) 6 : Nat), .int .u64 (dgl (q + s) 7 : Nat)])), (52, .val (.bool rest))]
      (fun bs W => ResSt w (w.heap.size + 1 + 1) (bif bs.headD false then dgl (q + s) else fun _ => 0) W ∧ LiesF W p8 (dgl S) ∧ LiesF W p9 (dgl H) ∧ LiesF W p12 (dgl q)) (OnlyAt (w.heap.size + 1 + 1)) mixedOk (by kernel_rfl) (by kernel_rfl) (by kernel_rfl) (⟨h2.1.below (Below.refl _ _).drew, h2.2.1, h2.2.2.1, h2.2.2.2⟩) (fun bs W W' h hb => ⟨h.1.below hb, h.2.1.below hb, h.2.2.1.below hb, h.2.2.2.below hb⟩) (fun t v w w' hg => tbl_keeps _ t v w w' _ (by
          intro p hp
          simp only [List.mem_cons, List.not_mem_nil, or_false] at hp
          rcases hp with rfl | rfl | rfl | rfl | rfl | rfl | rfl | rfl
          all_goals first | exact fun h => h | exact fun h => wides_keep hg h)) ?_ ?_
    · refine hSt rfl (fun bs => gStep_run rfl ?_) ?_
      · intro ρ W hC hc hf hL
        have e12 : ρ (.tmp 12) = .pointer (some ⟨p12, 0, none⟩) := hL 12 (by decide +kernel)
        have hl := hC.2.2.2.1
        simp [go_sem, hc, hf, e12, hl]
        exact ⟨Below.refl _ _, rfl⟩
      refine hSt rfl (fun bs => gStep_run rfl ?_) ?_
      · intro ρ W hC hc hf hL
        have e9 : ρ (.tmp 9) = .pointer (some ⟨p9, 0, none⟩) := hL 9 (by decide +kernel)
        have hl := hC.2.2.1.1
        simp [go_sem, hc, hf, e9, hl]
        exact ⟨Below.refl _ _, rfl⟩
      refine hSt rfl (fun bs => gStep_run rfl (gRun_move 2 47 (.inl rfl) rfl (by decide +kernel) (fun v w h => h))) ?_
      refine hSt rfl (fun bs => gStep_run rfl ?_) ?_
      · intro ρ W hC hc hf hL
        have e47 : ρ (.tmp 47) = .int .i64 (k : Nat) := hL 47 (by decide +kernel)
        simp [go_sem, hc, hf, e47, hsub]
        exact ⟨Below.refl _ _, rfl⟩
      refine hSt rfl (fun bs => gStep_run rfl ?_) ?_
      · intro ρ W hC hc hf hL
        have e46 : ρ (.tmp 46) = .agg #[.int .u64 (dgl (H) 0 : Nat), .int .u64 (dgl (H) 1 : Nat), .int .u64 (dgl (H) 2 : Nat), .int .u64 (dgl (H) 3 : Nat), .int .u64 (dgl (H) 4 : Nat), .int .u64 (dgl (H) 5 : Nat), .int .u64 (dgl (H) 6 : Nat), .int .u64 (dgl (H) 7 : Nat)] := hL 46 (by decide +kernel)
        have e48 : ρ (.tmp 48) = .int .i64 (512 - (k : Int)) := hL 48 (by decide +kernel)
        simp [go_sem, hc, hf, e46, e48]
        refine (HSHL.out _).mono ?_
        rintro e w' ⟨rfl, hb⟩
        exact ⟨_, rfl, by first | exact hb | (subst hb; exact Below.refl _ _), rfl⟩
      refine hSt rfl (fun bs => gStep_run rfl ?_) ?_
      · intro ρ W hC hc hf hL
        have e45 : ρ (.tmp 45) = .agg #[.int .u64 (dgl (q) 0 : Nat), .int .u64 (dgl (q) 1 : Nat), .int .u64 (dgl (q) 2 : Nat), .int .u64 (dgl (q) 3 : Nat), .int .u64 (dgl (q) 4 : Nat), .int .u64 (dgl (q) 5 : Nat), .int .u64 (dgl (q) 6 : Nat), .int .u64 (dgl (q) 7 : Nat)] := hL 45 (by decide +kernel)
        have e49 : ρ (.tmp 49) = .agg #[.int .u64 (dgl (s) 0 : Nat), .int .u64 (dgl (s) 1 : Nat), .int .u64 (dgl (s) 2 : Nat), .int .u64 (dgl (s) 3 : Nat), .int .u64 (dgl (s) 4 : Nat), .int .u64 (dgl (s) 5 : Nat), .int .u64 (dgl (s) 6 : Nat), .int .u64 (dgl (s) 7 : Nat)] := hL 49 (by decide +kernel)
        simp [go_sem, hc, hf, e45, e49]
        exact ⟨below_allocs _ _, W.heap.size, rfl, Nat.lt_trans hp8 (Nat.lt_of_lt_of_le hC.2.1.2 (Nat.le_refl _)), by simp, fun i j hi hj => wides2_new W q s _ i j hi hj⟩
      refine hSt rfl (fun bs => gStep_run rfl ?_) ?_
      · intro ρ W hC hc hf hL
        have b50 := hL 50 (by decide +kernel)
        simp [go_sem, hc, hf]
        refine (HSU.out _ _ (wides_rd (by simp) b50)).mono ?_
        rintro e w' ⟨rfl, hb⟩
        exact ⟨_, rfl, by first | exact hb | (subst hb; exact Below.refl _ _), rfl⟩
      refine hSt rfl (fun bs => gStep_run rfl (gRun_move 13 52 (.inl rfl) rfl (by decide +kernel) (fun v w h => h))) ?_
      refine hStS rfl ⟨rfl, rfl, ?_⟩ ?_
      · intro φ ρ W hφ hC hc hL
        have e6 : ρ (.tmp 6) = .pointer (some ⟨w.heap.size + 1 + 1, 0, none⟩) := hL 6 (by decide +kernel)
        have e51 : ρ (.tmp 51) = .agg #[.int .u64 (dgl (q + s) 0 : Nat), .int .u64 (dgl (q + s) 1 : Nat), .int .u64 (dgl (q + s) 2 : Nat), .int .u64 (dgl (q + s) 3 : Nat), .int .u64 (dgl (q + s) 4 : Nat), .int .u64 (dgl (q + s) 5 : Nat), .int .u64 (dgl (q + s) 6 : Nat), .int .u64 (dgl (q + s) 7 : Nat)] := hL 51 (by decide +kernel)
        simp only [List.map_cons, List.map_nil, List.headD_cons, hφ, cond_false] at hC
        have hz := hC.1.lr.1
        have hzl := hC.1.lr.2
        have hzf := hC.1.fr
        simp [go_sem, hc, e6, e51, hz, hzf, hzl]
        exact ⟨⟨hC.1.set8 (by omega), lies_ne hC.2.1 (by omega), lies_ne hC.2.2.1 (by omega), lies_ne hC.2.2.2 (by omega)⟩, onlyAt_set8 _ _ _ _ _ _ _ _ _ _⟩
      exact hSt0
    · intro W hC
      refine gFi 45 rfl ?_
      rintro _ rfl
      refine gFi 46 rfl ?_
      rintro _ rfl
      refine gFi 47 rfl ?_
      rintro _ rfl
      refine gFi 48 rfl ?_
      rintro _ rfl
      refine gFi 49 rfl ?_
      rintro _ rfl
      refine gFi 50 rfl ?_
      rintro u50 b50
      refine gFi 51 rfl ?_
      rintro _ rfl
      refine gFi 52 rfl ?_
      rintro _ rfl
      refine gFiN rfl ?_
      refine gFi0 ?_
      simp only [List.drop_succ_cons, List.drop_zero, Act.put, List.setIfInBounds_toArray, List.set_cons_succ, List.set_cons_zero]
      have hr := hC.1.lr.1
      have HB := hide hC.1.bel
      clear hC h2
      change ∀ i, i < 8 → W.cell? ⟨w.heap.size + 1 + 1, i, none⟩ = some (.int .u64 (dgl (q + s) i : Nat)) at hr
      go_wp2
      exact bodyPost_ret (v := .tuple #[.agg #[.int .u64 (dgl (q + s) 0 : Nat), .int .u64 (dgl (q + s) 1 : Nat), .int .u64 (dgl (q + s) 2 : Nat), .int .u64 (dgl (q + s) 3 : Nat), .int .u64 (dgl (q + s) 4 : Nat), .int .u64 (dgl (q + s) 5 : Nat), .int .u64 (dgl (q + s) 6 : Nat), .int .u64 (dgl (q + s) 7 : Nat)], .bool rest]) (by simp [results, Try.results63, go_sem, hr]) rfl ⟨rfl, HB.out⟩

set_option maxHeartbeats 4000000 in
theorem prodHigh_high (fa fb : Nat → Nat) (S H q k : Nat) (n : Int) (rs z : Bool) (w : World) (hk5 : 512 < k) (hk6 : (k : Int) ≤ 9223372036854775807)
    (HSHR : Hid (∀ w, Calls Try.prog 75 #[.agg #[.int .u64 (dgl (H) 0 : Nat), .int .u64 (dgl (H) 1 : Nat), .int .u64 (dgl (H) 2 : Nat), .int .u64 (dgl (H) 3 : Nat), .int .u64 (dgl (H) 4 : Nat), .int .u64 (dgl (H) 5 : Nat), .int .u64 (dgl (H) 6 : Nat), .int .u64 (dgl (H) 7 : Nat)], .int .i64 ((k : Int) - 512)] w fun e w' => e = .returned (.tuple #[.agg #[.int .u64 (dgl (q) 0 : Nat), .int .u64 (dgl (q) 1 : Nat), .int .u64 (dgl (q) 2 : Nat), .int .u64 (dgl (q) 3 : Nat), .int .u64 (dgl (q) 4 : Nat), .int .u64 (dgl (q) 5 : Nat), .int .u64 (dgl (q) 6 : Nat), .int .u64 (dgl (q) 7 : Nat)], .bool rs]) ∧ Below w.heap.size w w'))
    (hz0 : ∀ w, (Op.equalIn 10000 32 (.agg #[.int .u64 (dgl (S) 0 : Nat), .int .u64 (dgl (S) 1 : Nat), .int .u64 (dgl (S) 2 : Nat), .int .u64 (dgl (S) 3 : Nat), .int .u64 (dgl (S) 4 : Nat), .int .u64 (dgl (S) 5 : Nat), .int .u64 (dgl (S) 6 : Nat), .int .u64 (dgl (S) 7 : Nat)]) (.agg #[.int .u64 0, .int .u64 0, .int .u64 0, .int .u64 0, .int .u64 0, .int .u64 0, .int .u64 0, .int .u64 0])).run Try.prog w = .ok z w)
    (HK : Hid ((k : Int) = max n 0))
    (HSUM : Hid (∀ w, Calls Try.prog 81 #[.agg #[.int .u64 (fa 0 : Nat), .int .u64 (fa 1 : Nat), .int .u64 (fa 2 : Nat), .int .u64 (fa 3 : Nat), .int .u64 (fa 4 : Nat), .int .u64 (fa 5 : Nat), .int .u64 (fa 6 : Nat), .int .u64 (fa 7 : Nat)], .agg #[.int .u64 (fb 0 : Nat), .int .u64 (fb 1 : Nat), .int .u64 (fb 2 : Nat), .int .u64 (fb 3 : Nat), .int .u64 (fb 4 : Nat), .int .u64 (fb 5 : Nat), .int .u64 (fb 6 : Nat), .int .u64 (fb 7 : Nat)], .func (.func 82) #[] #[]] w fun e w' => e = .returned (.agg #[.int .u64 (dgl (S) 0 : Nat), .int .u64 (dgl (S) 1 : Nat), .int .u64 (dgl (S) 2 : Nat), .int .u64 (dgl (S) 3 : Nat), .int .u64 (dgl (S) 4 : Nat), .int .u64 (dgl (S) 5 : Nat), .int .u64 (dgl (S) 6 : Nat), .int .u64 (dgl (S) 7 : Nat), .int .u64 (dgl (S) 8 : Nat), .int .u64 (dgl (S) 9 : Nat), .int .u64 (dgl (S) 10 : Nat), .int .u64 (dgl (S) 11 : Nat), .int .u64 (dgl (S) 12 : Nat), .int .u64 (dgl (S) 13 : Nat), .int .u64 (dgl (S) 14 : Nat), .int .u64 (dgl (S) 15 : Nat)]) ∧ Below w.heap.size w w'))
    (HHAL : Hid (∀ w, Calls Try.prog 80 #[.agg #[.int .u64 (dgl (S) 0 : Nat), .int .u64 (dgl (S) 1 : Nat), .int .u64 (dgl (S) 2 : Nat), .int .u64 (dgl (S) 3 : Nat), .int .u64 (dgl (S) 4 : Nat), .int .u64 (dgl (S) 5 : Nat), .int .u64 (dgl (S) 6 : Nat), .int .u64 (dgl (S) 7 : Nat), .int .u64 (dgl (S) 8 : Nat), .int .u64 (dgl (S) 9 : Nat), .int .u64 (dgl (S) 10 : Nat), .int .u64 (dgl (S) 11 : Nat), .int .u64 (dgl (S) 12 : Nat), .int .u64 (dgl (S) 13 : Nat), .int .u64 (dgl (S) 14 : Nat), .int .u64 (dgl (S) 15 : Nat)]] w fun e w' => e = .returned (.tuple #[.agg #[.int .u64 (dgl (S) 0 : Nat), .int .u64 (dgl (S) 1 : Nat), .int .u64 (dgl (S) 2 : Nat), .int .u64 (dgl (S) 3 : Nat), .int .u64 (dgl (S) 4 : Nat), .int .u64 (dgl (S) 5 : Nat), .int .u64 (dgl (S) 6 : Nat), .int .u64 (dgl (S) 7 : Nat)], .agg #[.int .u64 (dgl (H) 0 : Nat), .int .u64 (dgl (H) 1 : Nat), .int .u64 (dgl (H) 2 : Nat), .int .u64 (dgl (H) 3 : Nat), .int .u64 (dgl (H) 4 : Nat), .int .u64 (dgl (H) 5 : Nat), .int .u64 (dgl (H) 6 : Nat), .int .u64 (dgl (H) 7 : Nat)]]) ∧ Below w.heap.size w w')) :
    Calls Try.prog 63 #[.agg #[.int .u64 (fa 0 : Nat), .int .u64 (fa 1 : Nat), .int .u64 (fa 2 : Nat), .int .u64 (fa 3 : Nat), .int .u64 (fa 4 : Nat), .int .u64 (fa 5 : Nat), .int .u64 (fa 6 : Nat), .int .u64 (fa 7 : Nat)], .agg #[.int .u64 (fb 0 : Nat), .int .u64 (fb 1 : Nat), .int .u64 (fb 2 : Nat), .int .u64 (fb 3 : Nat), .int .u64 (fb 4 : Nat), .int .u64 (fb 5 : Nat), .int .u64 (fb 6 : Nat), .int .u64 (fb 7 : Nat)], .int .i64 n] w fun e w' => e = .returned (.tuple #[.agg #[.int .u64 (dgl (q) 0 : Nat), .int .u64 (dgl (q) 1 : Nat), .int .u64 (dgl (q) 2 : Nat), .int .u64 (dgl (q) 3 : Nat), .int .u64 (dgl (q) 4 : Nat), .int .u64 (dgl (q) 5 : Nat), .int .u64 (dgl (q) 6 : Nat), .int .u64 (dgl (q) 7 : Nat)], .bool (rs || !z)]) ∧ Below w.heap.size w w' := by
  have HS0 : Hid (ResSt w (w.heap.size + 1 + 1) (fun _ => 0) (((w.alloc (.cells #[.int .u64 (fa 0 : Nat), .int .u64 (fa 1 : Nat), .int .u64 (fa 2 : Nat), .int .u64 (fa 3 : Nat), .int .u64 (fa 4 : Nat), .int .u64 (fa 5 : Nat), .int .u64 (fa 6 : Nat), .int .u64 (fa 7 : Nat)] 32)).alloc (.cells #[.int .u64 (fb 0 : Nat), .int .u64 (fb 1 : Nat), .int .u64 (fb 2 : Nat), .int .u64 (fb 3 : Nat), .int .u64 (fb 4 : Nat), .int .u64 (fb 5 : Nat), .int .u64 (fb 6 : Nat), .int .u64 (fb 7 : Nat)] 32)).alloc (.cells #[.int .u64 0, .int .u64 0, .int .u64 0, .int .u64 0, .int .u64 0, .int .u64 0, .int .u64 0, .int .u64 0] 32))) := by
    have h2 := liesF_new ((w.alloc (.cells #[.int .u64 (fa 0 : Nat), .int .u64 (fa 1 : Nat), .int .u64 (fa 2 : Nat), .int .u64 (fa 3 : Nat), .int .u64 (fa 4 : Nat), .int .u64 (fa 5 : Nat), .int .u64 (fa 6 : Nat), .int .u64 (fa 7 : Nat)] 32)).alloc (.cells #[.int .u64 (fb 0 : Nat), .int .u64 (fb 1 : Nat), .int .u64 (fb 2 : Nat), .int .u64 (fb 3 : Nat), .int .u64 (fb 4 : Nat), .int .u64 (fb 5 : Nat), .int .u64 (fb 6 : Nat), .int .u64 (fb 7 : Nat)] 32)) (fun _ => 0) 32
    simp only [World.size_alloc] at h2
    exact ⟨h2, fun i => by simp [go_sem], below_trans (below_trans (below_allocs _ _) (below_allocs _ _)) (below_allocs _ _)⟩
  go_enter Try.func63, Try.ntmps63
  go_wp2_with fail
  refine (HSUM.out _).mono ?_
  rintro e w1 ⟨rfl, hb1⟩
  have HS1 := hide (HS0.out.below hb1)
  clear HS0 hb1
  go_wp2_with fail
  refine (HHAL.out _).mono ?_
  rintro e w2 ⟨rfl, hb2⟩
  have HS2 := hide (HS1.out.below hb2)
  clear HS1 hb2
  go_upto_region 2 with fail
  refine wp_gen (fun W => ResSt w (w.heap.size + 1 + 1) (fun _ => 0) W ∧ LiesF W w2.heap.size (dgl S) ∧ LiesF W (w2.heap.size + 1) (dgl H)) ?_ ?_
  · have h3 := liesF_new (w2.alloc (.cells #[.int .u64 (dgl (S) 0 : Nat), .int .u64 (dgl (S) 1 : Nat), .int .u64 (dgl (S) 2 : Nat), .int .u64 (dgl (S) 3 : Nat), .int .u64 (dgl (S) 4 : Nat), .int .u64 (dgl (S) 5 : Nat), .int .u64 (dgl (S) 6 : Nat), .int .u64 (dgl (S) 7 : Nat)] 32)) (dgl H) 32
    rw [World.size_alloc] at h3
    exact ⟨(HS2.out.below (below_allocs _ _)).below (below_allocs _ _), (liesF_new w2 (dgl S) 32).alloc _, h3⟩
  rintro W2 h2
  have hp8 : w.heap.size + 1 + 1 < w2.heap.size := HS2.out.lr.2
  generalize hp : w2.heap.size = p8 at *
  obtain ⟨p9, hp9⟩ : ∃ p9, p8 + 1 = p9 := ⟨_, rfl⟩
  rw [hp9] at h2 ⊢
  clear HS2 hp
  go_cut [2] (fun x wx => x = .int .i64 (k : Nat) ∧ wx = W2)
  case first =>
    go_wp2
    all_goals
      go_meet
      exact ⟨by rw [HK.out]; first | done | (congr 1; omega), rfl⟩
  case rest =>
    obtain ⟨rfl, rfl⟩ := hcut
    have HS3 := hide h2
    have hk7 : (512 : Int) < (k : Int) := by omega
    have hch := h2.2.2.1
    clear h2
    go_wp2_with fail
    refine (HSHR.out _).mono ?_
    rintro e w3 ⟨rfl, hb3⟩
    have HS4 := hide (show ResSt w (w.heap.size + 1 + 1) (fun _ => 0) w3 ∧ LiesF w3 p8 (dgl S) ∧ LiesF w3 p9 (dgl H) from ⟨HS3.out.1.below hb3, HS3.out.2.1.below hb3, HS3.out.2.2.below hb3⟩)
    clear HS3 hb3 hch
    go_upto_region 5 with fail
    refine wp_gen (fun W => ResSt w (w.heap.size + 1 + 1) (fun _ => 0) W ∧ LiesF W p8 (dgl S) ∧ LiesF W p9 (dgl H) ∧ LiesF W w3.heap.size (dgl q)) ⟨HS4.out.1.below (below_allocs _ _), HS4.out.2.1.alloc _, HS4.out.2.2.alloc _, liesF_new _ _ _⟩ ?_
    rintro W4 h2
    have hp12 : p8 < w3.heap.size := HS4.out.2.1.2
    generalize w3.heap.size = p12 at *
    clear HS4
    cases rs
    · skip
      refine wp_region_store 8 [7] [(32, .agg #[.int .u64 (dgl (q) 0 : Nat), .int .u64 (dgl (q) 1 : Nat), .int .u64 (dgl (q) 2 : Nat), .int .u64 (dgl (q) 3 : Nat), .int .u64 (dgl (q) 4 : Nat), .int .u64 (dgl (q) 5 : Nat), .int .u64 (dgl (q) 6 : Nat), .int .u64 (dgl (q) 7 : Nat)]), (33, .bool false), (34, .bool false), (35, .agg #[.int .u64 (dgl (S) 0 : Nat), .int .u64 (dgl (S) 1 : Nat), .int .u64 (dgl (S) 2 : Nat), .int .u64 (dgl (S) 3 : Nat), .int .u64 (dgl (S) 4 : Nat), .int .u64 (dgl (S) 5 : Nat), .int .u64 (dgl (S) 6 : Nat), .int .u64 (dgl (S) 7 : Nat)]), (36, .agg #[.int .u64 0, .int .u64 0, .int .u64 0, .int .u64 0, .int .u64 0, .int .u64 0, .int .u64 0, .int .u64 0]), (37, .bool (!z)), (38, .bool (!z))]
        (fun bs W => ResSt w (w.heap.size + 1 + 1) (bif bs.headD false then dgl q else fun _ => 0) W ∧ LiesF W p8 (dgl S) ∧ LiesF W p9 (dgl H) ∧ LiesF W p12 (dgl q)) mixedOk (by kernel_rfl) (by kernel_rfl) (by kernel_rfl) (⟨h2.1.below (Below.refl _ _).drew, h2.2.1, h2.2.2.1, h2.2.2.2⟩) (fun bs W W' h hb => ⟨h.1.below hb, h.2.1.below hb, h.2.2.1.below hb, h.2.2.2.below hb⟩) ?_ ?_
      · refine sSt rfl (fun bs => gStep_run rfl ?_) ?_
        · intro ρ W hC hc hf hL
          have e10 : ρ (.tmp 10) = .pointer (some ⟨p12, 0, none⟩) := hL 10 (by decide +kernel)
          have hl := hC.2.2.2.1
          simp [go_sem, hc, hf, e10, hl]
          exact ⟨Below.refl _ _, rfl⟩
        refine sSt rfl (fun bs => gStep_run rfl (gRun_move 11 33 (.inl rfl) rfl (by decide +kernel) (fun v w h => h))) ?_
        refine sSt rfl (fun bs => gStep_run rfl (gRun_move 33 34 (.inl rfl) rfl (by decide +kernel) (fun v w h => h))) ?_
        refine sSt rfl (fun bs => gStep_on 2 34 false rfl rfl (by decide +kernel) (fun v w h => h) ?_) ?_
        · intro ρ W hC hc hf hL
          have e8 : ρ (.tmp 8) = .pointer (some ⟨p8, 0, none⟩) := hL 8 (by decide +kernel)
          have hl := hC.2.1.1
          simp [go_sem, hc, hf, e8, hl]
          exact ⟨Below.refl _ _, rfl⟩
        refine sSt rfl (fun bs => gStep_on 2 34 false rfl rfl (by decide +kernel) (fun v w h => h) ?_) ?_
        · intro ρ W hC hc hf hL
          simp [go_sem, hc, hf]
          exact ⟨Below.refl _ _, rfl⟩
        refine sSt rfl (fun bs => gStep_on 2 34 false rfl rfl (by decide +kernel) (fun v w h => h) ?_) ?_
        · intro ρ W hC hc hf hL
          have e35 : ρ (.tmp 35) = .agg #[.int .u64 (dgl (S) 0 : Nat), .int .u64 (dgl (S) 1 : Nat), .int .u64 (dgl (S) 2 : Nat), .int .u64 (dgl (S) 3 : Nat), .int .u64 (dgl (S) 4 : Nat), .int .u64 (dgl (S) 5 : Nat), .int .u64 (dgl (S) 6 : Nat), .int .u64 (dgl (S) 7 : Nat)] := hL 35 (by decide +kernel)
          have e36 : ρ (.tmp 36) = .agg #[.int .u64 0, .int .u64 0, .int .u64 0, .int .u64 0, .int .u64 0, .int .u64 0, .int .u64 0, .int .u64 0] := hL 36 (by decide +kernel)
          simp [go_sem, hc, hf, e35, e36, hz0]
          exact ⟨Below.refl _ _, rfl⟩
        refine sSt rfl (fun bs => gStep_run rfl (gRun_pickCF 34 37 38 _ rfl rfl (by decide +kernel) (by decide +kernel) (fun v w h => h) (fun v w h => h))) ?_
        refine sStS rfl ⟨rfl, rfl, ?_⟩ ?_
        · intro φ ρ W hφ hC hc hL
          have e6 : ρ (.tmp 6) = .pointer (some ⟨w.heap.size + 1 + 1, 0, none⟩) := hL 6 (by decide +kernel)
          have e32 : ρ (.tmp 32) = .agg #[.int .u64 (dgl (q) 0 : Nat), .int .u64 (dgl (q) 1 : Nat), .int .u64 (dgl (q) 2 : Nat), .int .u64 (dgl (q) 3 : Nat), .int .u64 (dgl (q) 4 : Nat), .int .u64 (dgl (q) 5 : Nat), .int .u64 (dgl (q) 6 : Nat), .int .u64 (dgl (q) 7 : Nat)] := hL 32 (by decide +kernel)
          simp only [List.map_cons, List.map_nil, List.headD_cons, hφ, cond_false] at hC
          have hz := hC.1.lr.1
          have hzl := hC.1.lr.2
          have hzf := hC.1.fr
          simp [go_sem, hc, e6, e32, hz, hzf, hzl]
          exact ⟨hC.1.set8 (by omega), lies_ne hC.2.1 (by omega), lies_ne hC.2.2.1 (by omega), lies_ne hC.2.2.2 (by omega)⟩
        exact sSt0
      · intro W hC
        refine gFi 32 rfl ?_
        rintro _ rfl
        refine gFi 33 rfl ?_
        rintro _ rfl
        refine gFi 34 rfl ?_
        rintro _ rfl
        refine gFi 35 rfl ?_
        rintro _ rfl
        refine gFi 36 rfl ?_
        rintro _ rfl
        refine gFi 37 rfl ?_
        rintro _ rfl
        refine gFi 38 rfl ?_
        rintro _ rfl
        refine gFiN rfl ?_
        refine gFi0 ?_
        simp only [List.drop_succ_cons, List.drop_zero, Act.put, List.setIfInBounds_toArray, List.set_cons_succ, List.set_cons_zero]
        have hr := hC.1.lr.1
        have HB := hide hC.1.bel
        clear hC h2
        change ∀ i, i < 8 → W.cell? ⟨w.heap.size + 1 + 1, i, none⟩ = some (.int .u64 (dgl q i : Nat)) at hr
        go_wp2
        exact bodyPost_ret (v := .tuple #[.agg #[.int .u64 (dgl (q) 0 : Nat), .int .u64 (dgl (q) 1 : Nat), .int .u64 (dgl (q) 2 : Nat), .int .u64 (dgl (q) 3 : Nat), .int .u64 (dgl (q) 4 : Nat), .int .u64 (dgl (q) 5 : Nat), .int .u64 (dgl (q) 6 : Nat), .int .u64 (dgl (q) 7 : Nat)], .bool (!z)]) (by simp [results, Try.results63, go_sem, hr]) rfl ⟨rfl, HB.out⟩
    · skip
      refine wp_region_store 8 [7] [(32, .agg #[.int .u64 (dgl (q) 0 : Nat), .int .u64 (dgl (q) 1 : Nat), .int .u64 (dgl (q) 2 : Nat), .int .u64 (dgl (q) 3 : Nat), .int .u64 (dgl (q) 4 : Nat), .int .u64 (dgl (q) 5 : Nat), .int .u64 (dgl (q) 6 : Nat), .int .u64 (dgl (q) 7 : Nat)]), (33, .bool true), (34, .bool true), (35, undef), (36, undef), (37, undef), (38, .bool true)]
        (fun bs W => ResSt w (w.heap.size + 1 + 1) (bif bs.headD false then dgl q else fun _ => 0) W ∧ LiesF W p8 (dgl S) ∧ LiesF W p9 (dgl H) ∧ LiesF W p12 (dgl q)) mixedOk (by kernel_rfl) (by kernel_rfl) (by kernel_rfl) (⟨h2.1.below (Below.refl _ _).drew, h2.2.1, h2.2.2.1, h2.2.2.2⟩) (fun bs W W' h hb => ⟨h.1.below hb, h.2.1.below hb, h.2.2.1.below hb, h.2.2.2.below hb⟩) ?_ ?_
      · refine sSt rfl (fun bs => gStep_run rfl ?_) ?_
        · intro ρ W hC hc hf hL
          have e10 : ρ (.tmp 10) = .pointer (some ⟨p12, 0, none⟩) := hL 10 (by decide +kernel)
          have hl := hC.2.2.2.1
          simp [go_sem, hc, hf, e10, hl]
          exact ⟨Below.refl _ _, rfl⟩
        refine sSt rfl (fun bs => gStep_run rfl (gRun_move 11 33 (.inl rfl) rfl (by decide +kernel) (fun v w h => h))) ?_
        refine sSt rfl (fun bs => gStep_run rfl (gRun_move 33 34 (.inl rfl) rfl (by decide +kernel) (fun v w h => h))) ?_
        refine sSt rfl (fun bs => gStep_off 2 34 false rfl rfl (by decide +kernel) (fun v w h => h) (fun w => rfl)) ?_
        refine sSt rfl (fun bs => gStep_off 2 34 false rfl rfl (by decide +kernel) (fun v w h => h) (fun w => rfl)) ?_
        refine sSt rfl (fun bs => gStep_off 2 34 false rfl rfl (by decide +kernel) (fun v w h => h) (fun w => rfl)) ?_
        refine sSt rfl (fun bs => gStep_run rfl (gRun_pickCT 34 38 _ _ rfl rfl (by decide +kernel) (fun v w h => h) (fun w => rfl))) ?_
        refine sStS rfl ⟨rfl, rfl, ?_⟩ ?_
        · intro φ ρ W hφ hC hc hL
          have e6 : ρ (.tmp 6) = .pointer (some ⟨w.heap.size + 1 + 1, 0, none⟩) := hL 6 (by decide +kernel)
          have e32 : ρ (.tmp 32) = .agg #[.int .u64 (dgl (q) 0 : Nat), .int .u64 (dgl (q) 1 : Nat), .int .u64 (dgl (q) 2 : Nat), .int .u64 (dgl (q) 3 : Nat), .int .u64 (dgl (q) 4 : Nat), .int .u64 (dgl (q) 5 : Nat), .int .u64 (dgl (q) 6 : Nat), .int .u64 (dgl (q) 7 : Nat)] := hL 32 (by decide +kernel)
          simp only [List.map_cons, List.map_nil, List.headD_cons, hφ, cond_false] at hC
          have hz := hC.1.lr.1
          have hzl := hC.1.lr.2
          have hzf := hC.1.fr
          simp [go_sem, hc, e6, e32, hz, hzf, hzl]
          exact ⟨hC.1.set8 (by omega), lies_ne hC.2.1 (by omega), lies_ne hC.2.2.1 (by omega), lies_ne hC.2.2.2 (by omega)⟩
        exact sSt0
      · intro W hC
        refine gFi 32 rfl ?_
        rintro _ rfl
        refine gFi 33 rfl ?_
        rintro _ rfl
        refine gFi 34 rfl ?_
        rintro _ rfl
        refine gFi 35 rfl ?_
        rintro _ rfl
        refine gFi 36 rfl ?_
        rintro _ rfl
        refine gFi 37 rfl ?_
        rintro _ rfl
        refine gFi 38 rfl ?_
        rintro _ rfl
        refine gFiN rfl ?_
        refine gFi0 ?_
        simp only [List.drop_succ_cons, List.drop_zero, Act.put, List.setIfInBounds_toArray, List.set_cons_succ, List.set_cons_zero]
        have hr := hC.1.lr.1
        have HB := hide hC.1.bel
        clear hC h2
        change ∀ i, i < 8 → W.cell? ⟨w.heap.size + 1 + 1, i, none⟩ = some (.int .u64 (dgl q i : Nat)) at hr
        go_wp2
        exact bodyPost_ret (v := .tuple #[.agg #[.int .u64 (dgl (q) 0 : Nat), .int .u64 (dgl (q) 1 : Nat), .int .u64 (dgl (q) 2 : Nat), .int .u64 (dgl (q) 3 : Nat), .int .u64 (dgl (q) 4 : Nat), .int .u64 (dgl (q) 5 : Nat), .int .u64 (dgl (q) 6 : Nat), .int .u64 (dgl (q) 7 : Nat)], .bool true]) (by simp [results, Try.results63, go_sem, hr]) rfl ⟨rfl, HB.out⟩

theorem high_split (P k r q : Nat) (hq : 2 ^ q = QQ) (hr : k + r = q) : P / 2 ^ k = P % QQ / 2 ^ k + P / QQ * 2 ^ r ∧ (P % QQ / 2 ^ k * 2 ^ k = P % QQ ↔ P / 2 ^ k * 2 ^ k = P) := by
  have hS : QQ = 2 ^ k * 2 ^ r := by rw [← Nat.pow_add, hr, hq]
  have hp : 0 < 2 ^ k := Nat.two_pow_pos k
  have e1 : P / 2 ^ k = P % QQ / 2 ^ k + P / QQ * 2 ^ r := by
    have h := Nat.mod_add_div P QQ
    have h2 : P / 2 ^ k = (P % QQ + 2 ^ k * (2 ^ r * (P / QQ))) / 2 ^ k := by
      congr 1
      rw [← Nat.mul_assoc, ← hS]; exact h.symm
    rw [h2, Nat.add_mul_div_left _ _ hp, Nat.mul_comm (P / QQ)]
  refine ⟨e1, ?_⟩
  rw [e1, Nat.add_mul, show P / QQ * 2 ^ r * 2 ^ k = P / QQ * (2 ^ k * 2 ^ r) by ac_rfl, ← hS]
  have h := Nat.mod_add_div P QQ
  have h3 : QQ * (P / QQ) = P / QQ * QQ := Nat.mul_comm _ _
  omega

theorem high_past (P k q m r : Nat) (hq : 2 ^ q = QQ) (hm : k = q + m) (hr : r = min m q) (hP : P / QQ < QQ) :
    P / QQ / 2 ^ r = P / 2 ^ k ∧ (P / QQ / 2 ^ r * 2 ^ r = P / QQ ∧ P % QQ = 0 ↔ P / 2 ^ k * 2 ^ k = P) := by
  have e1 : P / QQ / 2 ^ r = P / QQ / 2 ^ m := div_past (P / QQ) m r q hr hq hP
  have e2 : P / 2 ^ k = P / QQ / 2 ^ m := by rw [hm, Nat.pow_add, hq, Nat.div_div_eq_div_mul]
  have hl := lost_past (P / QQ) m r q hr hq hP
  rw [decide_eq_decide] at hl
  rw [← hl, e1, e2]
  refine ⟨rfl, ?_⟩
  have h := Nat.mod_add_div P QQ
  have h5 : P / QQ / 2 ^ m * 2 ^ k = QQ * (P / QQ / 2 ^ m * 2 ^ m) := by rw [hm, Nat.pow_add, hq]; ac_rfl
  rw [h5]
  constructor
  · rintro ⟨h1, h2⟩
    rw [h1]; omega
  · intro h1
    have h6 : P / QQ / 2 ^ m * 2 ^ m ≤ P / QQ := Nat.div_mul_le_self _ _
    have h7 : QQ * (P / QQ / 2 ^ m * 2 ^ m) ≤ QQ * (P / QQ) := Nat.mul_le_mul_left _ h6
    have h8 : QQ * (P / QQ / 2 ^ m * 2 ^ m) = QQ * (P / QQ) := by omega
    have hq0 : 0 < QQ := pow_pos' q QQ hq
    exact ⟨Nat.eq_of_mul_eq_mul_left hq0 h8, by omega⟩

theorem prodHigh_any (a b k : Nat) (n : Int) (hk : (k : Int) = max n 0) (hn : n ≤ 9223372036854775807) (ha : a < QQ) (hb : b < QQ) (w : World) :
    Calls Try.prog 63 #[.agg #[.int .u64 (dgl (a) 0 : Nat), .int .u64 (dgl (a) 1 : Nat), .int .u64 (dgl (a) 2 : Nat), .int .u64 (dgl (a) 3 : Nat), .int .u64 (dgl (a) 4 : Nat), .int .u64 (dgl (a) 5 : Nat), .int .u64 (dgl (a) 6 : Nat), .int .u64 (dgl (a) 7 : Nat)], .agg #[.int .u64 (dgl (b) 0 : Nat), .int .u64 (dgl (b) 1 : Nat), .int .u64 (dgl (b) 2 : Nat), .int .u64 (dgl (b) 3 : Nat), .int .u64 (dgl (b) 4 : Nat), .int .u64 (dgl (b) 5 : Nat), .int .u64 (dgl (b) 6 : Nat), .int .u64 (dgl (b) 7 : Nat)], .int .i64 n] w fun e w' => e = .returned (.tuple #[.agg #[.int .u64 (dgl (a * b / 2 ^ k) 0 : Nat), .int .u64 (dgl (a * b / 2 ^ k) 1 : Nat), .int .u64 (dgl (a * b / 2 ^ k) 2 : Nat), .int .u64 (dgl (a * b / 2 ^ k) 3 : Nat), .int .u64 (dgl (a * b / 2 ^ k) 4 : Nat), .int .u64 (dgl (a * b / 2 ^ k) 5 : Nat), .int .u64 (dgl (a * b / 2 ^ k) 6 : Nat), .int .u64 (dgl (a * b / 2 ^ k) 7 : Nat)], .bool (!decide (a * b / 2 ^ k * 2 ^ k = a * b))]) ∧ Below w.heap.size w w' := by
  have hq := qq_pow 512 rfl
  have hq0 : 0 < QQ := by omega
  have hP := qq_mul_lt ha hb
  rcases Nat.lt_or_ge 512 k with h5 | h5
  · obtain ⟨r, hr⟩ : ∃ r : Nat, roomI ((k : Int) - 512) = (r : Int) := ⟨(roomI ((k : Int) - 512)).toNat, by have := roomI_bd ((k : Int) - 512); omega⟩
    have hh := high_past (a * b) k 512 (k - 512) r hq (by omega) (by unfold roomI at hr; omega) hP
    have hS := fun w => wideShr_any (a * b / QQ) r ((k : Int) - 512) hr hP w
    have hz0 := fun w => wide_eqz (Nat.mod_lt (a * b) hq0) w
    rw [w8_mod (Nat.mod_mod (a * b) QQ)] at hz0
    have h := prodHigh_high (dgl a) (dgl b) (a * b) (a * b / QQ) (a * b / QQ / 2 ^ r) k n _ _ w h5 (by omega) hS hz0 hk (fun w => summed_all a b ha hb w) (fun w => halves_any (a * b) w)
    have e : (!decide (a * b / QQ / 2 ^ r * 2 ^ r = a * b / QQ) || !decide (a * b % QQ = 0)) = !decide (a * b / 2 ^ k * 2 ^ k = a * b) := by
      rw [← Bool.not_and]
      congr 1
      rw [Bool.eq_iff_iff, Bool.and_eq_true, decide_eq_true_iff, decide_eq_true_iff, decide_eq_true_iff]
      exact hh.2
    rw [e, hh.1] at h
    exact h
  · have hh := high_split (a * b) k (512 - k) 512 hq (by omega)
    have hr1 : roomI (k : Int) = (k : Int) := by unfold roomI; omega
    have hS := fun w => wideShr_any (a * b % QQ) k (k : Int) hr1 (Nat.mod_lt _ hq0) w
    rw [w8_mod (Nat.mod_mod (a * b) QQ)] at hS
    have hL := fun w => wideShl_any (a * b / QQ) (512 - (k : Int)) hP w
    have hr2 : roomI (512 - (k : Int)) = ((512 - k : Nat) : Int) := by unfold roomI; omega
    rw [hr2, sh_up] at hL
    have hs : a * b / QQ * 2 ^ (512 - k) % QQ < QQ := Nat.mod_lt _ hq0
    rw [← w8_mod (Nat.mod_mod (a * b / QQ * 2 ^ (512 - k)) QQ)] at hL
    have hqq : a * b % QQ / 2 ^ k < QQ := Nat.lt_of_le_of_lt (Nat.div_le_self _ _) (Nat.mod_lt _ hq0)
    have hSU := fun v w hv => prodSum_any [a * b % QQ / 2 ^ k, a * b / QQ * 2 ^ (512 - k) % QQ] v w hv (fun i => by
      match i with
      | 0 => exact hqq
      | 1 => exact hs
      | i + 2 => rw [getD_past _ _ (by simp)]; omega)
    have h := prodHigh_low (dgl a) (dgl b) (a * b) (a * b / QQ) (a * b % QQ / 2 ^ k) k n (a * b / QQ * 2 ^ (512 - k) % QQ) _ w h5 hS hL (fun v w hv => by
      have h1 := hSU v w hv
      have e1 : sumN [a * b % QQ / 2 ^ k, a * b / QQ * 2 ^ (512 - k) % QQ] [a * b % QQ / 2 ^ k, a * b / QQ * 2 ^ (512 - k) % QQ].length = a * b % QQ / 2 ^ k + a * b / QQ * 2 ^ (512 - k) % QQ := by simp [sumN, dg]
      rw [e1] at h1
      exact h1) hk (fun w => summed_all a b ha hb w) (fun w => halves_any (a * b) w)
    have e : decide (a * b % QQ / 2 ^ k * 2 ^ k = a * b % QQ) = decide (a * b / 2 ^ k * 2 ^ k = a * b) := by rw [decide_eq_decide]; exact hh.2
    rw [e, w8_mod (show (a * b % QQ / 2 ^ k + a * b / QQ * 2 ^ (512 - k) % QQ) % QQ = (a * b / 2 ^ k) % QQ by rw [hh.1, Nat.add_mod_mod])] at h
    exact h

end Go.Proofs.Yteocibahclpegaa

/- Contracts: radicandref03.Mul; radicandlaw03.awake. -/
set_option linter.unusedVariables false
set_option linter.unusedSimpArgs false
set_option maxRecDepth 8000
namespace Go.Proofs.Yteocibahclpegaa
open Go.RowKit Plain

end Go.Proofs.Yteocibahclpegaa

/- Contracts: prod.Power. -/
set_option linter.unusedVariables false
set_option linter.unusedSimpArgs false
set_option maxRecDepth 8000
namespace Go.Proofs.Yteocibahclpegaa
open Go.RowKit Plain

end Go.Proofs.Yteocibahclpegaa

/- Likewise, where what a slot holds hangs on which stores have been done. -/
set_option linter.unusedVariables false
set_option linter.unusedSimpArgs false
set_option maxRecDepth 8000
namespace Go.Proofs.Yteocibahclpegaa
open Go.RowKit Plain

theorem gUpon_of {P : Program} {K : Value → World → Prop} {r : Result Next} (X : World) (h : gUpon P (fun _ w' => w' = X) r) (hk : ∀ v, K v X) : gUpon P K r := by
  cases r with
  | ok x w' =>
    cases x <;> simp only [gUpon] at h ⊢
    case enter f args => exact h.mono fun e w'' ⟨v, he, hw⟩ => ⟨v, he, by subst hw; exact hk v⟩
    all_goals (subst h; exact hk _)
  | halt x w' => simp only [gUpon] at h

def SlotIs.any : SlotIs := ⟨fun _ _ => True, fun _ _ _ _ h => h⟩
theorem tbl_nil_imp {a : Act} {t : Tmp} {v : Value} {w w' : World} : tbl a t [] v w → tbl a t [] v w' := fun h => h
theorem val_imp {x v : Value} {w w' : World} : (SlotIs.val x).R v w → (SlotIs.val x).R v w' := fun h => h
theorem tbl_imp {a : Act} {t : Tmp} {v : Value} {w w' : World} {p q : Nat × SlotIs} {T1 T2 : List (Nat × SlotIs)} (hk : p.1 = q.1) (h : p.1 = t → p.2.R v w → q.2.R v w') (hr : tbl a t T1 v w → tbl a t T2 v w') :
    tbl a t (p :: T1) v w → tbl a t (q :: T2) v w' := by
  unfold tbl
  rw [← hk]
  cases hb : Nat.beq p.1 t
  · exact hr
  · exact h (Nat.eq_of_beq_eq_true hb)

section
variable {P : Program} {ops : Array Oper} {n : Nat} {a : Act} {T : List Bool → List (Nat × SlotIs)} {C : List Bool → World → Prop} {Q : Exit → Act → World → Prop} {ss : List Nat}

def kStore (P : Program) (ops : Array Oper) (a : Act) (T : List Bool → List (Nat × SlotIs)) (C : List Bool → World → Prop) (ss : List Nat) (k : Nat) (o : Oper) : Prop :=
  o.dst = none ∧ o.guard = none ∧ ∀ (φ : Nat → Bool) (ρ : Operand → Value) (w : World), φ k = false → C (ss.map φ) w → (∀ c, ρ (.const c) = c) → (∀ t ∈ o.looksAt ops, tbl a t (T (ss.map φ)) (ρ (.tmp t)) w) →
    gUpon P (fun _ w' => C (ss.map fun i => φ i || Nat.beq i k) w' ∧ ∀ t, tbl a t (T (ss.map φ)) (ρ (.tmp t)) w → tbl a t (T (ss.map fun i => φ i || Nat.beq i k)) (ρ (.tmp t)) w') ((execOp ρ o).run P w)

def kStep (P : Program) (ops : Array Oper) (a : Act) (T : List Bool → List (Nat × SlotIs)) (C : List Bool → World → Prop) (ss : List Nat) (k : Nat) (o : Oper) : Prop :=
  ∀ φ : Nat → Bool, (∀ s ∈ ss, Region.waitsFor .any ops s k = true → φ s = false) → gStep P ops a (T (ss.map φ)) (C (ss.map φ)) o

def kSteps (P : Program) (ops : Array Oper) (a : Act) (T : List Bool → List (Nat × SlotIs)) (C : List Bool → World → Prop) (ss : List Nat) : Nat → List Oper → Prop
  | _, [] => True
  | k, o :: rest => (if ss.contains k then kStore P ops a T C ss k o else kStep P ops a T C ss k o) ∧ kSteps P ops a T C ss (k + 1) rest
theorem kSt {k n : Nat} {o : Oper} {l : List Oper} (hk : ss.contains k = false) (h : kStep P ops a T C ss k o) (h2 : kSteps P ops a T C ss (k + 1) (l.take n)) : kSteps P ops a T C ss k ((o :: l).take (n + 1)) := by
  rw [List.take_succ_cons]; unfold kSteps; rw [hk]; exact ⟨h, h2⟩
theorem kStS {k n : Nat} {o : Oper} {l : List Oper} (hk : ss.contains k = true) (h : kStore P ops a T C ss k o) (h2 : kSteps P ops a T C ss (k + 1) (l.take n)) : kSteps P ops a T C ss k ((o :: l).take (n + 1)) := by
  rw [List.take_succ_cons]; unfold kSteps; rw [hk]; exact ⟨h, h2⟩
theorem kSt0 {k : Nat} {l : List Oper} : kSteps P ops a T C ss k (l.take 0) := trivial
theorem kSteps_get : ∀ (l : List Oper) (k i : Nat) (o : Oper), l[i]? = some o → kSteps P ops a T C ss k l → (if ss.contains (k + i) then kStore P ops a T C ss (k + i) o else kStep P ops a T C ss (k + i) o)
  | [], k, i, o, h, _ => by simp at h
  | x :: l, k, 0, o, h, hs => by simp at h; subst h; exact hs.1
  | x :: l, k, i + 1, o, h, hs => by
    have := kSteps_get l (k + 1) i o (by simpa using h) hs.2
    rw [show k + 1 + i = k + (i + 1) by omega] at this
    exact this

structure KInv (ops : Array Oper) (n : Nat) (a : Act) (T : List Bool → List (Nat × SlotIs)) (ds : List Nat) (C : List Bool → World → Prop) (ss : List Nat) (listed : Array Bool) (A : Act) (w : World) : Prop where
  c : C (ss.map fun i => listed.getD i false) w
  sz : A.tmps.size = a.tmps.size
  df : A.defers = a.defers
  kept : ∀ t, t ∉ ds → A.tmps[t]? = a.tmps[t]?
  known : ∀ t, (∀ i oi, i < n → ops[i]? = some oi → listed.getD i true = false → oi.dst ≠ some t) → tbl a t (T (ss.map fun i => listed.getD i false)) (A.eval (.tmp t)) w

theorem growK_any {ds : List Nat} (hTd : ∀ bs, (T bs).map Prod.fst = ds) (hB : gOkB ops n ds = true) (hss : ∀ i ∈ ss, i < n) (hCs : ∀ bs w w', C bs w → Below w.heap.size w w' → C bs w') (hsz : ∀ d ∈ ds, d < a.tmps.size)
    (hst : kSteps P ops a T C ss 0 (ops.toList.take n)) (hf : ∀ w', C (ss.map fun _ => true) w' → gFin a (T (ss.map fun _ => true)) (fun a' => wpList P ops Q (ops.toList.drop n) a' w') w' (ops.toList.take n) a) :
    ∀ (f : Nat) (L : List Nat) (listed : Array Bool) (A : Act) (w : World), L.length = f → L.Nodup → (∀ i, i ∈ L ↔ (i < n ∧ listed.getD i true = false)) →
      HeadInv .any ops n listed → KInv ops n a T ds C ss listed A w → wpAny P .any ops Q (f + (ops.size - n)) listed A w := by
  simp only [gOkB, Bool.and_eq_true, decide_eq_true_eq] at hB
  obtain ⟨⟨⟨⟨⟨hn, hlook⟩, hd⟩, hnd⟩, htail⟩, hseq⟩ := hB
  have hlk : ∀ j o, j < n → ops[j]? = some o → (∀ t ∈ o.looksAt ops, ∀ i oi, i < n → ops[i]? = some oi → oi.dst = some t → ∃ e ∈ o.after, Region.binds .any e = true ∧ e.on = i) ∧ (∀ e ∈ o.after, Region.binds .any e = true → e.on < j) := by
    intro j o hj ho
    have h1 := List.all_eq_true.1 hlook j (List.mem_range.2 hj)
    simp only [ho, Bool.and_eq_true] at h1
    constructor
    · intro t ht i oi hi hoi hdi
      have h2 := List.all_eq_true.1 (List.all_eq_true.1 h1.1 t ht) i (List.mem_range.2 hi)
      simp only [hoi, hdi, Bool.or_eq_true] at h2
      rcases h2 with h2 | h2
      · have : Nat.beq t t = true := Nat.beq_refl t
        rw [this] at h2; cases h2
      · obtain ⟨oj, hoj, e, he, hb, hon⟩ := Region.waitsFor_spec h2
        have : oj = o := Option.some.inj (hoj.symm.trans ho)
        subst this
        exact ⟨e, he, hb, hon⟩
    · intro e he hb
      have h2 := (Array.all_eq_true_iff_forall_mem.1 h1.2) e he
      simp only [hb, Bool.not_true, Bool.false_or, decide_eq_true_eq] at h2
      exact h2
  have hdst : ∀ i o, i < n → ops[i]? = some o → ∀ d, o.dst = some d → d ∈ ds := fun i o hi ho d hdo => by
    rw [← hd]
    refine List.mem_filterMap.2 ⟨o, ?_, hdo⟩
    rw [List.mem_iff_getElem?]
    exact ⟨i, by rw [List.getElem?_take_of_lt hi, Array.getElem?_toList]; exact ho⟩
  intro f
  induction f with
  | zero =>
    intro L listed A w hl hnd' hL hinv inv
    have hall : ∀ i, i < n → listed.getD i true = true := fun i hi => by
      cases hc : listed.getD i true
      · have := (hL i).2 ⟨hi, hc⟩
        rw [List.length_eq_zero_iff.1 hl] at this; cases this
      · rfl
    have hlist : listed = Array.replicate n true ++ Array.replicate (ops.size - n) false := by
      apply Array.ext_getElem?
      intro i
      by_cases h1 : i < n
      · have h2 := hall i h1
        have h3 : i < listed.size := by rw [hinv.size]; omega
        simp [h3] at h2
        rw [Array.getElem?_append_left (by simpa using h1)]
        simp [h1, h3, h2]
      · by_cases h4 : i < ops.size
        · have h2 := hinv.tail i (by omega) h4
          have h3 : i < listed.size := by rw [hinv.size]; omega
          simp [h3] at h2
          rw [Array.getElem?_append_right (by simp; omega), Array.getElem?_eq_getElem h3, Array.getElem?_replicate, if_pos (by simp; omega), h2]
        · rw [Array.getElem?_eq_none (by rw [hinv.size]; omega), Array.getElem?_eq_none (by simp; omega)]
    rw [Nat.zero_add]
    have hmap : (ss.map fun i => listed.getD i false) = ss.map fun _ => true := List.map_congr_left (fun i hi => by
      have h1 := hall i (hss i hi)
      have h3 : i < listed.size := by rw [hinv.size]; have := hss i hi; omega
      simp [h3] at h1 ⊢; exact h1)
    have hc1 := inv.c
    have hk1 := inv.known
    rw [hmap] at hc1 hk1
    have hQ := gFin_use (a := a) (T := T (ss.map fun _ => true)) (w := w) _ A a inv.sz inv.df (by rw [hd]; exact hnd) (fun t ht => inv.kept t (by rw [← hd]; exact ht)) (fun d hdm => hk1 d (fun i oi hi hoi hli => by rw [hall i hi] at hli; cases hli)) (hf w hc1)
    have := wpAny_of_seq (md := .any) (Q' := Q) (ops.toList.drop n) n listed A w (fun j => by simp [List.getElem?_drop]) (by rw [hlist]; simpa using hseq) hQ
    simpa using this
  | succ f ih =>
    intro L listed A w hl hnd' hL hinv inv
    have hne : ∃ i, i < n ∧ listed.getD i true = false := by
      cases L with
      | nil => cases hl
      | cons i L => exact ⟨i, (hL i).1 (by simp)⟩
    have hready : Region.ready .any ops listed ≠ [] := by
      intro hr
      obtain ⟨i, hi, hli⟩ := hne
      have key : ∀ m, ∀ j, j < m → j < n → listed.getD j true = true := by
        intro m
        induction m with
        | zero => intro j hj; omega
        | succ m ihm =>
          intro j hj hjn
          rcases Nat.lt_or_ge j m with h | h
          · exact ihm j h hjn
          · cases hc : listed.getD j true
            · have hjs : j < ops.size := by omega
              have : j ∈ Region.ready .any ops listed := mem_ready.2 ⟨hc, ops[j], by simp [hjs], fun e he hb => by
                have h1 := (hlk j ops[j] hjn (by simp [hjs])).2 e he hb
                have h2 := ihm e.on (by omega) (by omega)
                have h3 : e.on < listed.size := by rw [hinv.size]; omega
                simp [h3] at h2 ⊢; exact h2⟩
              rw [hr] at this; cases this
            · rfl
      rw [key (i + 1) i (by omega) hi] at hli; cases hli
    rw [show f + 1 + (ops.size - n) = (f + (ops.size - n)) + 1 by omega]
    refine ⟨fun h => absurd h hready, fun i hi => ?_⟩
    have hin : i < n := by
      rcases Nat.lt_or_ge i n with h | h
      · exact h
      · simp only [Bool.or_eq_true, Bool.and_eq_true, decide_eq_true_eq] at htail
        rcases htail with ht | ⟨⟨h1, h2⟩, h3⟩
        · obtain ⟨_, o, ho, _⟩ := mem_ready.1 hi
          have := (Array.getElem?_eq_some_iff.1 ho).1
          omega
        · obtain ⟨k, hk, hlk'⟩ := hne
          exact absurd hi (tail_waits h2 h3 h1 hinv _ k rfl hk hlk' i h)
    obtain ⟨hun, o, ho, hafter⟩ := mem_ready.1 hi
    have hlooks : ∀ t ∈ o.looksAt ops, tbl a t (T (ss.map fun i => listed.getD i false)) (A.eval (.tmp t)) w := fun t ht => inv.known t (fun j oj hj hoj hlj hdj => by
      obtain ⟨e, he, hb, hon⟩ := (hlk i o hin ho).1 t ht j oj hj hoj hdj
      have h1 := hafter e he hb
      rw [hon, getD_both hlj] at h1; cases h1)
    have hnext : ∀ v w', (∀ t, tbl a t (T (ss.map fun i => listed.getD i false)) (A.eval (.tmp t)) w → tbl a t (T (ss.map fun j => (listed.setIfInBounds i true).getD j false)) (A.eval (.tmp t)) w') → (match o.dst with | some d => tbl a d (T (ss.map fun j => (listed.setIfInBounds i true).getD j false)) v w' | none => True) → C (ss.map fun j => (listed.setIfInBounds i true).getD j false) w' →
        wpAny P .any ops Q (f + (ops.size - n)) (listed.setIfInBounds i true) (A.put o.dst v) w' := fun v w' hmon hp hc' => by
      refine ih (L.erase i) _ _ _ ?_ (hnd'.erase i) (fun j => ?_) (hinv.set hi hin) ⟨hc', by rw [put_sz]; exact inv.sz, by rw [put_df]; exact inv.df, fun t ht => ?_, fun t ht => ?_⟩
      · rw [List.length_erase_of_mem ((hL i).2 ⟨hin, hun⟩), hl]; rfl
      · rw [hnd'.mem_erase_iff, hL j]
        constructor
        · rintro ⟨h1, h2, h3⟩
          exact ⟨h2, by rw [getD_set_ne true (fun e => h1 e.symm)]; exact h3⟩
        · rintro ⟨h2, h3⟩
          by_cases hij : i = j
          · subst hij
            have : i < listed.size := by rw [hinv.size]; omega
            simp [this] at h3
          · rw [getD_set_ne true hij] at h3
            exact ⟨fun e => hij e.symm, h2, h3⟩
      · rw [← inv.kept t ht]
        cases hdo : o.dst with
        | none => rfl
        | some d =>
          have : d ≠ t := fun e => ht (e ▸ hdst i o hin ho d hdo)
          simp [Act.put, Array.getElem?_setIfInBounds_ne this]
      · by_cases hdt : o.dst = some t
        · rw [hdt] at hp
          have e : (A.put o.dst v).eval (.tmp t) = v := by
            rw [hdt]
            have : t < A.tmps.size := by rw [inv.sz]; exact hsz t (hdst i o hin ho t hdt)
            simp [Act.put, Act.eval, this]
          rw [e]; exact hp
        · have e : (A.put o.dst v).eval (.tmp t) = A.eval (.tmp t) := Act.eval_put (fun d h1 h2 => hdt (by rw [h1]; cases h2; rfl))
          rw [e]
          refine hmon t (inv.known t fun j oj hj hoj hl => ?_)
          by_cases hij : i = j
          · subst hij
            have : oj = o := Option.some.inj (hoj.symm.trans ho)
            subst this; exact hdt
          · exact ht j oj hj hoj (by rw [getD_set_ne true hij]; exact hl)
    have hget := kSteps_get _ 0 i o (by rw [List.getElem?_take_of_lt hin, Array.getElem?_toList]; exact ho) hst
    rw [Nat.zero_add] at hget
    have hils : i < listed.size := by rw [hinv.size]; omega
    unfold wpOp
    simp only [ho]
    cases hsi : ss.contains i with
    | true =>
      rw [hsi] at hget
      obtain ⟨hd0, hg0, hgo⟩ := hget
      have hw : Region.wanted o (yielded ops A.tmps) = true := by unfold Region.wanted; rw [hg0]
      rw [if_pos hw]
      have hmp : (ss.map fun j => listed.getD j false || Nat.beq j i) = ss.map fun j => (listed.setIfInBounds i true).getD j false := List.map_congr_left (fun j _ => by
        by_cases hij : i = j
        · subst hij
          have : Nat.beq i i = true := Nat.beq_refl i
          simp [hils, this]
        · rw [getD_set_ne false hij]
          have : Nat.beq j i = false := by
            cases hb : Nat.beq j i
            · rfl
            · exact absurd (Nat.eq_of_beq_eq_true hb).symm hij
          simp [this])
      have hrun := hgo (fun j => listed.getD j false) A.eval w (getD_both hun) inv.c (fun _ => rfl) hlooks
      rw [hmp] at hrun
      exact .inl (wp_of_gOp (fun v w' hk => hnext v w' hk.2 (by rw [hd0]; trivial) hk.1) hrun)
    | false =>
      rw [hsi] at hget
      have hstep := hget (fun j => listed.getD j false) (fun s hs hw => by
        obtain ⟨os, hos, e, he, hb, hon⟩ := Region.waitsFor_spec hw
        cases hl2 : listed.getD s false
        · rfl
        · have h2 := hinv.closed s os hos hl2 e he hb
          rw [hon, getD_both hun] at h2
          cases h2) A w inv.c hlooks
      have hsame : (ss.map fun j => (listed.setIfInBounds i true).getD j false) = ss.map fun j => listed.getD j false := List.map_congr_left (fun j hj => by
        refine getD_set_ne false (fun e => ?_)
        subst e
        rw [List.contains_iff_mem.2 hj] at hsi
        cases hsi)
      have go : ∀ v w', gPost a (T (ss.map fun j => listed.getD j false)) o w v w' → wpAny P .any ops Q (f + (ops.size - n)) (listed.setIfInBounds i true) (A.put o.dst v) w' := fun v w' hp =>
        hnext v w' (fun t => by rw [hsame]; exact tbl_mono a t _ w w' hp.1 _) (by rw [hsame]; exact hp.2) (by rw [hsame]; exact hCs _ _ _ inv.c hp.1)
      split
      · rename_i hw
        simp only [hw, if_true] at hstep
        exact .inl (wp_of_gOp go hstep)
      · rename_i hw
        simp only [hw] at hstep
        exact go _ _ hstep

theorem wp_region_storeK {id : Nat} {w : World} {l : List Oper} (n : Nat) (ss : List Nat) (ds : List Nat) (T : List Bool → List (Nat × SlotIs)) (C : List Bool → World → Prop) (hTd : ∀ bs, (T bs).map Prod.fst = ds) (hm : P.follows .mixedOrders = true) (hB : gOkB l.toArray n ds = true)
    (hsz : ds.all (fun d => Nat.blt d a.tmps.size) = true) (hss : ss.all (fun i => Nat.blt i n) = true) (hC : C (ss.map fun _ => false) w.drew) (hCs : ∀ bs w w', C bs w → Below w.heap.size w w' → C bs w')
    (hst : kSteps P l.toArray a T C ss 0 (l.take n)) (hf : ∀ w', C (ss.map fun _ => true) w' → gFin a (T (ss.map fun _ => true)) (fun a' => wpList P l.toArray Q (l.drop n) a' w') w' (l.take n) a) :
    (Code.region id l.toArray true).wp P Q a w := by
  refine wp_region_any hm ?_
  have hn : n ≤ l.toArray.size := by
    simp only [gOkB, Bool.and_eq_true, decide_eq_true_eq] at hB
    exact hB.1.1.1.1.1
  have := growK_any (P := P) (ops := l.toArray) (n := n) (a := a) (T := T) (C := C) (ss := ss) (Q := Q) hTd hB (fun i hi => by have := List.all_eq_true.1 hss i hi; simpa [Nat.blt_eq] using this) hCs (fun d hd => by have := List.all_eq_true.1 hsz d hd; simpa [Nat.blt_eq] using this) (by simpa using hst) (by simpa using hf) n (List.range n) (Array.replicate l.toArray.size false) a w.drew (by simp) List.nodup_range
    (fun i => by
      rw [List.mem_range]
      constructor
      · intro h
        have : i < l.length := by have : n ≤ l.length := by simpa using hn
                                  omega
        exact ⟨h, by simp [this]⟩
      · exact fun h => h.1)
    ⟨by simp, fun j oj _ hl => (by rw [getD_replicate_false] at hl; cases hl), fun t _ ht => getD_in (by simpa using ht) (getD_replicate_false _ _)⟩
    ⟨by rw [List.map_congr_left (g := fun _ => false) (fun i _ => getD_replicate_false _ _)]; exact hC, rfl, rfl, fun _ _ => rfl, fun t ht => tbl_out a t _ _ rfl (T _) (fun hmem => by
      rw [hTd] at hmem
      have hd : ((l.toArray.toList.take n).filterMap (·.dst)) = ds := by
        simp only [gOkB, Bool.and_eq_true, decide_eq_true_eq] at hB
        exact hB.1.1.1.2
      rw [← hd] at hmem
      obtain ⟨o, ho, hdo⟩ := List.mem_filterMap.1 hmem
      obtain ⟨i, hi⟩ := List.mem_iff_getElem?.1 ho
      have hin : i < n := by
        rcases Nat.lt_or_ge i n with h | h
        · exact h
        · rw [List.getElem?_eq_none (by simp; omega)] at hi; cases hi
      rw [List.getElem?_take_of_lt hin] at hi
      have hil : i < l.length := by
        rcases Nat.lt_or_ge i l.length with h | h
        · exact h
        · rw [List.getElem?_eq_none h] at hi; cases hi
      exact ht i o hin (by simpa using hi) (by simp [hil]) hdo)⟩
  rwa [show n + (l.toArray.size - n) = l.toArray.size by omega] at this
end
end Go.Proofs.Yteocibahclpegaa

/- Likewise, where the region lays several blocks of its own: the slots that hold them are told apart. -/
set_option linter.unusedVariables false
set_option linter.unusedSimpArgs false
set_option maxRecDepth 8000
namespace Go.Proofs.Yteocibahclpegaa
open Go.RowKit Plain

/-- The blocks that the slots fs hold are there, and no two are the same. -/
def apart (fs : List Nat) (e : Operand → Value) (w : World) : Prop :=
  (∀ x ∈ fs, ∀ b, e (.tmp x) = .pointer (some ⟨b, 0, none⟩) → b < w.heap.size) ∧ ∀ x ∈ fs, ∀ y ∈ fs, x ≠ y → ∀ b, e (.tmp x) = .pointer (some ⟨b, 0, none⟩) → e (.tmp y) ≠ .pointer (some ⟨b, 0, none⟩)
theorem apart.grow {fs : List Nat} {e : Operand → Value} {w w' : World} (h : apart fs e w) (hs : w.heap.size ≤ w'.heap.size) : apart fs e w' :=
  ⟨fun x hx b hb => Nat.lt_of_lt_of_le (h.1 x hx b hb) hs, h.2⟩
theorem apart.other {fs : List Nat} {A : Act} {d : Option Tmp} {v : Value} {w w' : World} (h : apart fs A.eval w) (hd : d.any fs.contains = false) (hs : w.heap.size ≤ w'.heap.size) : apart fs (A.put d v).eval w' := by
  have key : ∀ x ∈ fs, (A.put d v).eval (.tmp x) = A.eval (.tmp x) := fun x hx => Act.eval_put (fun y h1 h2 => by
    subst h1
    cases h2
    have : fs.contains x = true := List.contains_iff_mem.2 hx
    rw [Option.any_some, this] at hd
    cases hd)
  exact ⟨fun x hx b hb => Nat.lt_of_lt_of_le (h.1 x hx b (by rw [← key x hx]; exact hb)) hs, fun x hx y hy hxy b h1 h2 => h.2 x hx y hy hxy b (by rw [← key x hx]; exact h1) (by rw [← key y hy]; exact h2)⟩
theorem apart.fresh {fs : List Nat} {A : Act} {d : Option Tmp} {v : Value} {w w' : World} (h : apart fs A.eval w) (hz : ∀ t, d = some t → t < A.tmps.size) (hs : w.heap.size ≤ w'.heap.size) (hv : ∀ b, v = .pointer (some ⟨b, 0, none⟩) → w.heap.size ≤ b ∧ b < w'.heap.size) : apart fs (A.put d v).eval w' := by
  have key : ∀ x, d ≠ some x → (A.put d v).eval (.tmp x) = A.eval (.tmp x) := fun x hx => Act.eval_put (fun y h1 h2 => by
    subst h1
    cases h2
    exact hx rfl)
  have key2 : ∀ x, d = some x → (A.put d v).eval (.tmp x) = v := fun x hx => by
    have := hz x hx
    subst hx
    simp [Act.put, Act.eval, this]
  refine ⟨fun x hx b hb => ?_, fun x hx y hy hxy b h1 h2 => ?_⟩
  · by_cases e : d = some x
    · rw [key2 x e] at hb
      exact (hv b hb).2
    · rw [key x e] at hb
      exact Nat.lt_of_lt_of_le (h.1 x hx b hb) hs
  · by_cases e1 : d = some x
    · have e2 : d ≠ some y := fun e => hxy (Option.some.inj (e1.symm.trans e))
      rw [key2 x e1] at h1
      rw [key y e2] at h2
      have := h.1 y hy b h2
      have := (hv b h1).1
      omega
    · rw [key x e1] at h1
      by_cases e2 : d = some y
      · rw [key2 y e2] at h2
        have := h.1 x hx b h1
        have := (hv b h2).1
        omega
      · rw [key y e2] at h2
        exact h.2 x hx y hy hxy b h1 h2

def notPtr : Value → Bool
  | .pointer (some _) => false
  | _ => true
theorem apart_start {fs : List Nat} {a : Act} {w : World} (h : fs.all (fun x => notPtr (a.eval (.tmp x))) = true) : apart fs a.eval w := by
  have key : ∀ x ∈ fs, ∀ b, a.eval (.tmp x) ≠ .pointer (some ⟨b, 0, none⟩) := fun x hx b hb => by
    have := List.all_eq_true.1 h x hx
    rw [hb] at this
    cases this
  exact ⟨fun x hx b hb => absurd hb (key x hx b), fun x hx y hy hxy b h1 => absurd h1 (key x hx b)⟩

def jFresh (P : Program) (ops : Array Oper) (a : Act) (T : List (Nat × SlotIs)) (C : World → Prop) (o : Oper) : Prop :=
  o.guard = none ∧ ∀ (ρ : Operand → Value) (w : World), C w → (∀ c, ρ (.const c) = c) → (∀ t ∈ o.looksAt ops, tbl a t T (ρ (.tmp t)) w) →
    gUpon P (fun v w' => gPost a T o w v w' ∧ ∀ b, v = .pointer (some ⟨b, 0, none⟩) → w.heap.size ≤ b ∧ b < w'.heap.size) ((execOp ρ o).run P w)

section
variable {P : Program} {ops : Array Oper} {n : Nat} {a : Act} {T : List Bool → List (Nat × SlotIs)} {C : List Bool → World → Prop} {Q : Exit → Act → World → Prop} {ss : List Nat} {fs : List Nat}

def jStore (P : Program) (ops : Array Oper) (a : Act) (T : List Bool → List (Nat × SlotIs)) (C : List Bool → World → Prop) (ss fs : List Nat) (k : Nat) (o : Oper) : Prop :=
  o.dst = none ∧ o.guard = none ∧ ∀ (φ : Nat → Bool) (ρ : Operand → Value) (w : World), φ k = false → C (ss.map φ) w → (∀ c, ρ (.const c) = c) → apart fs ρ w → (∀ t ∈ o.looksAt ops, tbl a t (T (ss.map φ)) (ρ (.tmp t)) w) →
    gUpon P (fun _ w' => C (ss.map fun i => φ i || Nat.beq i k) w' ∧ w.heap.size ≤ w'.heap.size ∧ ∀ t, tbl a t (T (ss.map φ)) (ρ (.tmp t)) w → tbl a t (T (ss.map fun i => φ i || Nat.beq i k)) (ρ (.tmp t)) w') ((execOp ρ o).run P w)

def jStep (P : Program) (ops : Array Oper) (a : Act) (T : List Bool → List (Nat × SlotIs)) (C : List Bool → World → Prop) (ss fs : List Nat) (k : Nat) (o : Oper) : Prop :=
  ∀ φ : Nat → Bool, (∀ s ∈ ss, Region.waitsFor .any ops s k = true → φ s = false) → bif (o.dst.any fs.contains) then jFresh P ops a (T (ss.map φ)) (C (ss.map φ)) o else gStep P ops a (T (ss.map φ)) (C (ss.map φ)) o

def jSteps (P : Program) (ops : Array Oper) (a : Act) (T : List Bool → List (Nat × SlotIs)) (C : List Bool → World → Prop) (ss fs : List Nat) : Nat → List Oper → Prop
  | _, [] => True
  | k, o :: rest => (if ss.contains k then jStore P ops a T C ss fs k o else jStep P ops a T C ss fs k o) ∧ jSteps P ops a T C ss fs (k + 1) rest
theorem jSt {k n : Nat} {o : Oper} {l : List Oper} (hk : ss.contains k = false) (hd : o.dst.any fs.contains = false) (h : ∀ φ : Nat → Bool, (∀ s ∈ ss, Region.waitsFor .any ops s k = true → φ s = false) → gStep P ops a (T (ss.map φ)) (C (ss.map φ)) o) (h2 : jSteps P ops a T C ss fs (k + 1) (l.take n)) : jSteps P ops a T C ss fs k ((o :: l).take (n + 1)) := by
  rw [List.take_succ_cons]; unfold jSteps; rw [hk]; refine ⟨fun φ hφ => ?_, h2⟩; rw [hd]; exact h φ hφ
theorem jStF {k n : Nat} {o : Oper} {l : List Oper} (hk : ss.contains k = false) (hd : o.dst.any fs.contains = true) (h : ∀ φ : Nat → Bool, (∀ s ∈ ss, Region.waitsFor .any ops s k = true → φ s = false) → jFresh P ops a (T (ss.map φ)) (C (ss.map φ)) o) (h2 : jSteps P ops a T C ss fs (k + 1) (l.take n)) : jSteps P ops a T C ss fs k ((o :: l).take (n + 1)) := by
  rw [List.take_succ_cons]; unfold jSteps; rw [hk]; refine ⟨fun φ hφ => ?_, h2⟩; rw [hd]; exact h φ hφ
theorem jStS {k n : Nat} {o : Oper} {l : List Oper} (hk : ss.contains k = true) (h : jStore P ops a T C ss fs k o) (h2 : jSteps P ops a T C ss fs (k + 1) (l.take n)) : jSteps P ops a T C ss fs k ((o :: l).take (n + 1)) := by
  rw [List.take_succ_cons]; unfold jSteps; rw [hk]; exact ⟨h, h2⟩
theorem jSt0 {k : Nat} {l : List Oper} : jSteps P ops a T C ss fs k (l.take 0) := trivial
theorem jSteps_get : ∀ (l : List Oper) (k i : Nat) (o : Oper), l[i]? = some o → jSteps P ops a T C ss fs k l → (if ss.contains (k + i) then jStore P ops a T C ss fs (k + i) o else jStep P ops a T C ss fs (k + i) o)
  | [], k, i, o, h, _ => by simp at h
  | x :: l, k, 0, o, h, hs => by simp at h; subst h; exact hs.1
  | x :: l, k, i + 1, o, h, hs => by
    have := jSteps_get l (k + 1) i o (by simpa using h) hs.2
    rw [show k + 1 + i = k + (i + 1) by omega] at this
    exact this

structure JInv (ops : Array Oper) (n : Nat) (a : Act) (T : List Bool → List (Nat × SlotIs)) (ds : List Nat) (C : List Bool → World → Prop) (ss fs : List Nat) (listed : Array Bool) (A : Act) (w : World) : Prop where
  c : C (ss.map fun i => listed.getD i false) w
  sz : A.tmps.size = a.tmps.size
  df : A.defers = a.defers
  kept : ∀ t, t ∉ ds → A.tmps[t]? = a.tmps[t]?
  known : ∀ t, (∀ i oi, i < n → ops[i]? = some oi → listed.getD i true = false → oi.dst ≠ some t) → tbl a t (T (ss.map fun i => listed.getD i false)) (A.eval (.tmp t)) w
  ap : apart fs A.eval w

end
end Go.Proofs.Yteocibahclpegaa

/- Contracts: the document's quotients (radicandref11). -/
set_option linter.unusedVariables false
set_option linter.unusedSimpArgs false
set_option maxRecDepth 8000
namespace Go.Proofs.Yteocibahclpegaa
open Go.RowKit Plain

/-- May two be divided? An error's number. -/
def mayN (n d : Nat) : Nat := if d = 0 then 5 else if 2 ^ 120 ≤ d then 4 else if d * 2 ^ 128 ≤ n then 4 else 0
theorem mayN_zero {n d : Nat} (h : mayN n d = 0) : 0 < d ∧ d < 2 ^ 120 ∧ n < d * 2 ^ 128 := by
  unfold mayN at h
  by_cases h1 : d = 0
  · rw [if_pos h1] at h
    omega
  rw [if_neg h1] at h
  by_cases h2 : 2 ^ 120 ≤ d
  · rw [if_pos h2] at h
    omega
  rw [if_neg h2] at h
  by_cases h3 : d * 2 ^ 128 ≤ n
  · rw [if_pos h3] at h
    omega
  omega
theorem bitLen_zero {d : Nat} : Go.bitLen d = 0 ↔ d = 0 := by
  constructor
  · intro h
    have := bitLen_lt d
    rw [h] at this
    omega
  · intro h
    rw [h]
    rfl
theorem bitLen_above (d k : Nat) : k < Go.bitLen d ↔ 2 ^ k ≤ d := by
  constructor
  · intro h
    rcases Nat.lt_or_ge d (2 ^ k) with h1 | h1
    · have := bitLen_le d k h1
      omega
    · exact h1
  · intro h
    rcases Nat.lt_or_ge k (Go.bitLen d) with h1 | h1
    · exact h1
    · have h2 := bitLen_lt d
      have h3 : 2 ^ Go.bitLen d ≤ 2 ^ k := Nat.pow_le_pow_right (by decide) h1
      omega
/-- Two wides in boxes, of a call's own. -/
structure TwSt (a b : Nat) (w W : World) : Prop where
  la : LiesF W w.heap.size (dgl a)
  lb : LiesF W (w.heap.size + 1) (dgl b)
  bel : Below w.heap.size w W
theorem TwSt.under {a b : Nat} {w W W' : World} (h : TwSt a b w W) {C : Nat} (hb : Below C W W') (hc : w.heap.size + 1 < C) : TwSt a b w W' :=
  ⟨lies_box h.la hb (by omega), lies_box h.lb hb hc, h.bel.trans (hb.mono (by omega))⟩
theorem TwSt.below {a b : Nat} {w W W' : World} (h : TwSt a b w W) (hb : Below W.heap.size W W') : TwSt a b w W' := h.under hb h.lb.2
theorem twSt_start (a b : Nat) (w : World) (e1 e2 : TypeId) : TwSt a b w ((w.alloc (.cells #[.int .u64 (dgl (a) 0 : Nat), .int .u64 (dgl (a) 1 : Nat), .int .u64 (dgl (a) 2 : Nat), .int .u64 (dgl (a) 3 : Nat), .int .u64 (dgl (a) 4 : Nat), .int .u64 (dgl (a) 5 : Nat), .int .u64 (dgl (a) 6 : Nat), .int .u64 (dgl (a) 7 : Nat)] e1)).alloc (.cells #[.int .u64 (dgl (b) 0 : Nat), .int .u64 (dgl (b) 1 : Nat), .int .u64 (dgl (b) 2 : Nat), .int .u64 (dgl (b) 3 : Nat), .int .u64 (dgl (b) 4 : Nat), .int .u64 (dgl (b) 5 : Nat), .int .u64 (dgl (b) 6 : Nat), .int .u64 (dgl (b) 7 : Nat)] e2)) := by
  have h := liesF_new (w.alloc (.cells #[.int .u64 (dgl (a) 0 : Nat), .int .u64 (dgl (a) 1 : Nat), .int .u64 (dgl (a) 2 : Nat), .int .u64 (dgl (a) 3 : Nat), .int .u64 (dgl (a) 4 : Nat), .int .u64 (dgl (a) 5 : Nat), .int .u64 (dgl (a) 6 : Nat), .int .u64 (dgl (a) 7 : Nat)] e1)) (dgl b) e2
  rw [World.size_alloc] at h
  exact ⟨(liesF_new w (dgl a) e1).alloc _, h, below_trans (below_allocs w _) (below_allocs _ _)⟩

set_option maxHeartbeats 2000000 in
theorem rmay_Z (n d L s : Nat) (q : Int)
    (HBN : Hid (∀ w, Calls Try.prog 19 #[.agg #[.int .u64 (dgl (n) 0 : Nat), .int .u64 (dgl (n) 1 : Nat), .int .u64 (dgl (n) 2 : Nat), .int .u64 (dgl (n) 3 : Nat), .int .u64 (dgl (n) 4 : Nat), .int .u64 (dgl (n) 5 : Nat), .int .u64 (dgl (n) 6 : Nat), .int .u64 (dgl (n) 7 : Nat)]] w fun e w' => ∃ v, e = .returned v ∧ BigV w' v n 40 ∧ Below w.heap.size w w'))
    (HBD : Hid (∀ w, Calls Try.prog 19 #[.agg #[.int .u64 (dgl (d) 0 : Nat), .int .u64 (dgl (d) 1 : Nat), .int .u64 (dgl (d) 2 : Nat), .int .u64 (dgl (d) 3 : Nat), .int .u64 (dgl (d) 4 : Nat), .int .u64 (dgl (d) 5 : Nat), .int .u64 (dgl (d) 6 : Nat), .int .u64 (dgl (d) 7 : Nat)]] w fun e w' => ∃ v, e = .returned v ∧ BigV w' v d 40 ∧ Below w.heap.size w w'))
    (HLN : Hid (∀ v w, BigV w v d 40 → Calls Try.prog 28 #[v] w fun e w' => e = .returned (.int .i64 ((L : Nat) : Int)) ∧ w' = w))
    (hL : L = 0) (w : World) :
    Calls Try.prog 23 #[.agg #[.int .u64 (dgl (n) 0 : Nat), .int .u64 (dgl (n) 1 : Nat), .int .u64 (dgl (n) 2 : Nat), .int .u64 (dgl (n) 3 : Nat), .int .u64 (dgl (n) 4 : Nat), .int .u64 (dgl (n) 5 : Nat), .int .u64 (dgl (n) 6 : Nat), .int .u64 (dgl (n) 7 : Nat)], .agg #[.int .u64 (dgl (d) 0 : Nat), .int .u64 (dgl (d) 1 : Nat), .int .u64 (dgl (d) 2 : Nat), .int .u64 (dgl (d) 3 : Nat), .int .u64 (dgl (d) 4 : Nat), .int .u64 (dgl (d) 5 : Nat), .int .u64 (dgl (d) 6 : Nat), .int .u64 (dgl (d) 7 : Nat)]] w fun e w' => e = .returned (.int .i64 5) ∧ Below w.heap.size w w' := by
  have HS := hide (twSt_start n d w 32 32)
  have hl0 : (((L : Nat) : Int) == 0) = true := by rw [beq_iff_eq]; omega
  clear hL
  go_enter Try.func23, Try.ntmps23
  go_upto_region 1 with fail
  refine wp_gen (fun W => TwSt n d w W) HS.out ?_
  clear HS
  rintro W1 h1
  refine wp_region_grow 6 [(7, .val (.agg #[.int .u64 (dgl (n) 0 : Nat), .int .u64 (dgl (n) 1 : Nat), .int .u64 (dgl (n) 2 : Nat), .int .u64 (dgl (n) 3 : Nat), .int .u64 (dgl (n) 4 : Nat), .int .u64 (dgl (n) 5 : Nat), .int .u64 (dgl (n) 6 : Nat), .int .u64 (dgl (n) 7 : Nat)])), (8, .big n 40), (9, .val (.agg #[.int .u64 (dgl (d) 0 : Nat), .int .u64 (dgl (d) 1 : Nat), .int .u64 (dgl (d) 2 : Nat), .int .u64 (dgl (d) 3 : Nat), .int .u64 (dgl (d) 4 : Nat), .int .u64 (dgl (d) 5 : Nat), .int .u64 (dgl (d) 6 : Nat), .int .u64 (dgl (d) 7 : Nat)])), (10, .big d 40), (5, .big n 40), (6, .big d 40)]
    (fun W => TwSt n d w W) mixedOk (by kernel_rfl) (by kernel_rfl) (h1.below (Below.refl _ _).drew) (fun W W' h hb => h.below hb) ?_ ?_
  · refine gSt (gStep_run rfl ?_) ?_
    · intro ρ W hC hc hf hL
      have e2 : ρ (.tmp 2) = .pointer (some ⟨w.heap.size, 0, none⟩) := hL 2 (by decide +kernel)
      have hl := hC.la.1
      simp [go_sem, hc, hf, e2, hl]
      exact ⟨Below.refl _ _, rfl⟩
    refine gSt (gStep_run rfl ?_) ?_
    · intro ρ W hC hc hf hL
      have e7 : ρ (.tmp 7) = .agg #[.int .u64 (dgl (n) 0 : Nat), .int .u64 (dgl (n) 1 : Nat), .int .u64 (dgl (n) 2 : Nat), .int .u64 (dgl (n) 3 : Nat), .int .u64 (dgl (n) 4 : Nat), .int .u64 (dgl (n) 5 : Nat), .int .u64 (dgl (n) 6 : Nat), .int .u64 (dgl (n) 7 : Nat)] := hL 7 (by decide +kernel)
      simp [go_sem, hc, hf, e7]
      refine (HBN.out W).mono ?_
      rintro e w' ⟨v, rfl, hv, hb⟩
      exact ⟨_, rfl, hb, hv⟩
    refine gSt (gStep_run rfl ?_) ?_
    · intro ρ W hC hc hf hL
      have e3 : ρ (.tmp 3) = .pointer (some ⟨w.heap.size + 1, 0, none⟩) := hL 3 (by decide +kernel)
      have hl := hC.lb.1
      simp [go_sem, hc, hf, e3, hl]
      exact ⟨Below.refl _ _, rfl⟩
    refine gSt (gStep_run rfl ?_) ?_
    · intro ρ W hC hc hf hL
      have e9 : ρ (.tmp 9) = .agg #[.int .u64 (dgl (d) 0 : Nat), .int .u64 (dgl (d) 1 : Nat), .int .u64 (dgl (d) 2 : Nat), .int .u64 (dgl (d) 3 : Nat), .int .u64 (dgl (d) 4 : Nat), .int .u64 (dgl (d) 5 : Nat), .int .u64 (dgl (d) 6 : Nat), .int .u64 (dgl (d) 7 : Nat)] := hL 9 (by decide +kernel)
      simp [go_sem, hc, hf, e9]
      refine (HBD.out W).mono ?_
      rintro e w' ⟨v, rfl, hv, hb⟩
      exact ⟨_, rfl, hb, hv⟩
    refine gSt (gStep_run rfl (gRun_move 8 5 (.inr rfl) rfl (by decide +kernel) (fun v w h => h))) ?_
    refine gSt (gStep_run rfl (gRun_move 10 6 (.inr rfl) rfl (by decide +kernel) (fun v w h => h))) ?_
    exact gSt0
  · intro W hC
    refine gFi 7 rfl ?_
    rintro _ rfl
    refine gFi 8 rfl ?_
    rintro u8 b8
    refine gFi 9 rfl ?_
    rintro _ rfl
    refine gFi 10 rfl ?_
    rintro u10 b10
    refine gFi 5 rfl ?_
    rintro u5 b5
    refine gFi 6 rfl ?_
    rintro u6 b6
    refine gFi0 ?_
    simp only [List.drop_succ_cons, List.drop_zero, Act.put, List.setIfInBounds_toArray, List.set_cons_succ, List.set_cons_zero]
    have HS := hide hC
    clear hC h1
    go_wp2_with fail
    refine (HLN.out _ _ b6).mono ?_
    rintro e wl ⟨rfl, hw⟩
    subst wl
    have HB := hide HS.out.bel
    clear HS
    go_wp2
    go_ret
    exact ⟨rfl, HB.out⟩

set_option maxHeartbeats 2000000 in
theorem rmay_B (n d L s : Nat) (q : Int)
    (HBN : Hid (∀ w, Calls Try.prog 19 #[.agg #[.int .u64 (dgl (n) 0 : Nat), .int .u64 (dgl (n) 1 : Nat), .int .u64 (dgl (n) 2 : Nat), .int .u64 (dgl (n) 3 : Nat), .int .u64 (dgl (n) 4 : Nat), .int .u64 (dgl (n) 5 : Nat), .int .u64 (dgl (n) 6 : Nat), .int .u64 (dgl (n) 7 : Nat)]] w fun e w' => ∃ v, e = .returned v ∧ BigV w' v n 40 ∧ Below w.heap.size w w'))
    (HBD : Hid (∀ w, Calls Try.prog 19 #[.agg #[.int .u64 (dgl (d) 0 : Nat), .int .u64 (dgl (d) 1 : Nat), .int .u64 (dgl (d) 2 : Nat), .int .u64 (dgl (d) 3 : Nat), .int .u64 (dgl (d) 4 : Nat), .int .u64 (dgl (d) 5 : Nat), .int .u64 (dgl (d) 6 : Nat), .int .u64 (dgl (d) 7 : Nat)]] w fun e w' => ∃ v, e = .returned v ∧ BigV w' v d 40 ∧ Below w.heap.size w w'))
    (HLN : Hid (∀ v w, BigV w v d 40 → Calls Try.prog 28 #[v] w fun e w' => e = .returned (.int .i64 ((L : Nat) : Int)) ∧ w' = w))
    (hL : 120 < L) (w : World) :
    Calls Try.prog 23 #[.agg #[.int .u64 (dgl (n) 0 : Nat), .int .u64 (dgl (n) 1 : Nat), .int .u64 (dgl (n) 2 : Nat), .int .u64 (dgl (n) 3 : Nat), .int .u64 (dgl (n) 4 : Nat), .int .u64 (dgl (n) 5 : Nat), .int .u64 (dgl (n) 6 : Nat), .int .u64 (dgl (n) 7 : Nat)], .agg #[.int .u64 (dgl (d) 0 : Nat), .int .u64 (dgl (d) 1 : Nat), .int .u64 (dgl (d) 2 : Nat), .int .u64 (dgl (d) 3 : Nat), .int .u64 (dgl (d) 4 : Nat), .int .u64 (dgl (d) 5 : Nat), .int .u64 (dgl (d) 6 : Nat), .int .u64 (dgl (d) 7 : Nat)]] w fun e w' => e = .returned (.int .i64 4) ∧ Below w.heap.size w w' := by
  have HS := hide (twSt_start n d w 32 32)
  have hl0 : (((L : Nat) : Int) == 0) = false := by rw [beq_eq_false_iff_ne]; omega
  have hl1 : (120 : Int) < (L : Int) := by omega
  clear hL
  go_enter Try.func23, Try.ntmps23
  go_upto_region 1 with fail
  refine wp_gen (fun W => TwSt n d w W) HS.out ?_
  clear HS
  rintro W1 h1
  refine wp_region_grow 6 [(7, .val (.agg #[.int .u64 (dgl (n) 0 : Nat), .int .u64 (dgl (n) 1 : Nat), .int .u64 (dgl (n) 2 : Nat), .int .u64 (dgl (n) 3 : Nat), .int .u64 (dgl (n) 4 : Nat), .int .u64 (dgl (n) 5 : Nat), .int .u64 (dgl (n) 6 : Nat), .int .u64 (dgl (n) 7 : Nat)])), (8, .big n 40), (9, .val (.agg #[.int .u64 (dgl (d) 0 : Nat), .int .u64 (dgl (d) 1 : Nat), .int .u64 (dgl (d) 2 : Nat), .int .u64 (dgl (d) 3 : Nat), .int .u64 (dgl (d) 4 : Nat), .int .u64 (dgl (d) 5 : Nat), .int .u64 (dgl (d) 6 : Nat), .int .u64 (dgl (d) 7 : Nat)])), (10, .big d 40), (5, .big n 40), (6, .big d 40)]
    (fun W => TwSt n d w W) mixedOk (by kernel_rfl) (by kernel_rfl) (h1.below (Below.refl _ _).drew) (fun W W' h hb => h.below hb) ?_ ?_
  · refine gSt (gStep_run rfl ?_) ?_
    · intro ρ W hC hc hf hL
      have e2 : ρ (.tmp 2) = .pointer (some ⟨w.heap.size, 0, none⟩) := hL 2 (by decide +kernel)
      have hl := hC.la.1
      simp [go_sem, hc, hf, e2, hl]
      exact ⟨Below.refl _ _, rfl⟩
    refine gSt (gStep_run rfl ?_) ?_
    · intro ρ W hC hc hf hL
      have e7 : ρ (.tmp 7) = .agg #[.int .u64 (dgl (n) 0 : Nat), .int .u64 (dgl (n) 1 : Nat), .int .u64 (dgl (n) 2 : Nat), .int .u64 (dgl (n) 3 : Nat), .int .u64 (dgl (n) 4 : Nat), .int .u64 (dgl (n) 5 : Nat), .int .u64 (dgl (n) 6 : Nat), .int .u64 (dgl (n) 7 : Nat)] := hL 7 (by decide +kernel)
      simp [go_sem, hc, hf, e7]
      refine (HBN.out W).mono ?_
      rintro e w' ⟨v, rfl, hv, hb⟩
      exact ⟨_, rfl, hb, hv⟩
    refine gSt (gStep_run rfl ?_) ?_
    · intro ρ W hC hc hf hL
      have e3 : ρ (.tmp 3) = .pointer (some ⟨w.heap.size + 1, 0, none⟩) := hL 3 (by decide +kernel)
      have hl := hC.lb.1
      simp [go_sem, hc, hf, e3, hl]
      exact ⟨Below.refl _ _, rfl⟩
    refine gSt (gStep_run rfl ?_) ?_
    · intro ρ W hC hc hf hL
      have e9 : ρ (.tmp 9) = .agg #[.int .u64 (dgl (d) 0 : Nat), .int .u64 (dgl (d) 1 : Nat), .int .u64 (dgl (d) 2 : Nat), .int .u64 (dgl (d) 3 : Nat), .int .u64 (dgl (d) 4 : Nat), .int .u64 (dgl (d) 5 : Nat), .int .u64 (dgl (d) 6 : Nat), .int .u64 (dgl (d) 7 : Nat)] := hL 9 (by decide +kernel)
      simp [go_sem, hc, hf, e9]
      refine (HBD.out W).mono ?_
      rintro e w' ⟨v, rfl, hv, hb⟩
      exact ⟨_, rfl, hb, hv⟩
    refine gSt (gStep_run rfl (gRun_move 8 5 (.inr rfl) rfl (by decide +kernel) (fun v w h => h))) ?_
    refine gSt (gStep_run rfl (gRun_move 10 6 (.inr rfl) rfl (by decide +kernel) (fun v w h => h))) ?_
    exact gSt0
  · intro W hC
    refine gFi 7 rfl ?_
    rintro _ rfl
    refine gFi 8 rfl ?_
    rintro u8 b8
    refine gFi 9 rfl ?_
    rintro _ rfl
    refine gFi 10 rfl ?_
    rintro u10 b10
    refine gFi 5 rfl ?_
    rintro u5 b5
    refine gFi 6 rfl ?_
    rintro u6 b6
    refine gFi0 ?_
    simp only [List.drop_succ_cons, List.drop_zero, Act.put, List.setIfInBounds_toArray, List.set_cons_succ, List.set_cons_zero]
    have HS := hide hC
    clear hC h1
    go_wp2_with fail
    refine (HLN.out _ _ b6).mono ?_
    rintro e wl ⟨rfl, hw⟩
    subst wl
    go_wp2_with fail
    refine (HLN.out _ _ b6).mono ?_
    rintro e wl ⟨rfl, hw⟩
    subst wl
    have HB := hide HS.out.bel
    clear HS
    go_wp2
    go_ret
    exact ⟨rfl, HB.out⟩

set_option maxHeartbeats 2000000 in
theorem rmay_G (n d L s : Nat) (q : Int)
    (HBN : Hid (∀ w, Calls Try.prog 19 #[.agg #[.int .u64 (dgl (n) 0 : Nat), .int .u64 (dgl (n) 1 : Nat), .int .u64 (dgl (n) 2 : Nat), .int .u64 (dgl (n) 3 : Nat), .int .u64 (dgl (n) 4 : Nat), .int .u64 (dgl (n) 5 : Nat), .int .u64 (dgl (n) 6 : Nat), .int .u64 (dgl (n) 7 : Nat)]] w fun e w' => ∃ v, e = .returned v ∧ BigV w' v n 40 ∧ Below w.heap.size w w'))
    (HBD : Hid (∀ w, Calls Try.prog 19 #[.agg #[.int .u64 (dgl (d) 0 : Nat), .int .u64 (dgl (d) 1 : Nat), .int .u64 (dgl (d) 2 : Nat), .int .u64 (dgl (d) 3 : Nat), .int .u64 (dgl (d) 4 : Nat), .int .u64 (dgl (d) 5 : Nat), .int .u64 (dgl (d) 6 : Nat), .int .u64 (dgl (d) 7 : Nat)]] w fun e w' => ∃ v, e = .returned v ∧ BigV w' v d 40 ∧ Below w.heap.size w w'))
    (HLN : Hid (∀ v w, BigV w v d 40 → Calls Try.prog 28 #[v] w fun e w' => e = .returned (.int .i64 ((L : Nat) : Int)) ∧ w' = w))
    (hL : 0 < L) (hL2 : L ≤ 120)
    (HSH : Hid (∀ v w, BigV w v d 40 → Calls Try.prog 21 #[v, .int .i64 128] w fun e w' => ∃ v', e = .returned v' ∧ BigV w' v' s 50 ∧ Below w.heap.size w w'))
    (HCM : Hid (∀ u v w, BigV w u n 40 → BigV w v s 50 → Calls Try.prog 20 #[u, v] w fun e w' => e = .returned (.int .i64 q) ∧ w' = w))
    (hq : 0 ≤ q) (w : World) :
    Calls Try.prog 23 #[.agg #[.int .u64 (dgl (n) 0 : Nat), .int .u64 (dgl (n) 1 : Nat), .int .u64 (dgl (n) 2 : Nat), .int .u64 (dgl (n) 3 : Nat), .int .u64 (dgl (n) 4 : Nat), .int .u64 (dgl (n) 5 : Nat), .int .u64 (dgl (n) 6 : Nat), .int .u64 (dgl (n) 7 : Nat)], .agg #[.int .u64 (dgl (d) 0 : Nat), .int .u64 (dgl (d) 1 : Nat), .int .u64 (dgl (d) 2 : Nat), .int .u64 (dgl (d) 3 : Nat), .int .u64 (dgl (d) 4 : Nat), .int .u64 (dgl (d) 5 : Nat), .int .u64 (dgl (d) 6 : Nat), .int .u64 (dgl (d) 7 : Nat)]] w fun e w' => e = .returned (.int .i64 4) ∧ Below w.heap.size w w' := by
  have HS := hide (twSt_start n d w 32 32)
  have hl0 : (((L : Nat) : Int) == 0) = false := by rw [beq_eq_false_iff_ne]; omega
  have hl1 : ¬ (120 : Int) < (L : Int) := by omega
  clear hL
  go_enter Try.func23, Try.ntmps23
  go_upto_region 1 with fail
  refine wp_gen (fun W => TwSt n d w W) HS.out ?_
  clear HS
  rintro W1 h1
  refine wp_region_grow 6 [(7, .val (.agg #[.int .u64 (dgl (n) 0 : Nat), .int .u64 (dgl (n) 1 : Nat), .int .u64 (dgl (n) 2 : Nat), .int .u64 (dgl (n) 3 : Nat), .int .u64 (dgl (n) 4 : Nat), .int .u64 (dgl (n) 5 : Nat), .int .u64 (dgl (n) 6 : Nat), .int .u64 (dgl (n) 7 : Nat)])), (8, .big n 40), (9, .val (.agg #[.int .u64 (dgl (d) 0 : Nat), .int .u64 (dgl (d) 1 : Nat), .int .u64 (dgl (d) 2 : Nat), .int .u64 (dgl (d) 3 : Nat), .int .u64 (dgl (d) 4 : Nat), .int .u64 (dgl (d) 5 : Nat), .int .u64 (dgl (d) 6 : Nat), .int .u64 (dgl (d) 7 : Nat)])), (10, .big d 40), (5, .big n 40), (6, .big d 40)]
    (fun W => TwSt n d w W) mixedOk (by kernel_rfl) (by kernel_rfl) (h1.below (Below.refl _ _).drew) (fun W W' h hb => h.below hb) ?_ ?_
  · refine gSt (gStep_run rfl ?_) ?_
    · intro ρ W hC hc hf hL
      have e2 : ρ (.tmp 2) = .pointer (some ⟨w.heap.size, 0, none⟩) := hL 2 (by decide +kernel)
      have hl := hC.la.1
      simp [go_sem, hc, hf, e2, hl]
      exact ⟨Below.refl _ _, rfl⟩
    refine gSt (gStep_run rfl ?_) ?_
    · intro ρ W hC hc hf hL
      have e7 : ρ (.tmp 7) = .agg #[.int .u64 (dgl (n) 0 : Nat), .int .u64 (dgl (n) 1 : Nat), .int .u64 (dgl (n) 2 : Nat), .int .u64 (dgl (n) 3 : Nat), .int .u64 (dgl (n) 4 : Nat), .int .u64 (dgl (n) 5 : Nat), .int .u64 (dgl (n) 6 : Nat), .int .u64 (dgl (n) 7 : Nat)] := hL 7 (by decide +kernel)
      simp [go_sem, hc, hf, e7]
      refine (HBN.out W).mono ?_
      rintro e w' ⟨v, rfl, hv, hb⟩
      exact ⟨_, rfl, hb, hv⟩
    refine gSt (gStep_run rfl ?_) ?_
    · intro ρ W hC hc hf hL
      have e3 : ρ (.tmp 3) = .pointer (some ⟨w.heap.size + 1, 0, none⟩) := hL 3 (by decide +kernel)
      have hl := hC.lb.1
      simp [go_sem, hc, hf, e3, hl]
      exact ⟨Below.refl _ _, rfl⟩
    refine gSt (gStep_run rfl ?_) ?_
    · intro ρ W hC hc hf hL
      have e9 : ρ (.tmp 9) = .agg #[.int .u64 (dgl (d) 0 : Nat), .int .u64 (dgl (d) 1 : Nat), .int .u64 (dgl (d) 2 : Nat), .int .u64 (dgl (d) 3 : Nat), .int .u64 (dgl (d) 4 : Nat), .int .u64 (dgl (d) 5 : Nat), .int .u64 (dgl (d) 6 : Nat), .int .u64 (dgl (d) 7 : Nat)] := hL 9 (by decide +kernel)
      simp [go_sem, hc, hf, e9]
      refine (HBD.out W).mono ?_
      rintro e w' ⟨v, rfl, hv, hb⟩
      exact ⟨_, rfl, hb, hv⟩
    refine gSt (gStep_run rfl (gRun_move 8 5 (.inr rfl) rfl (by decide +kernel) (fun v w h => h))) ?_
    refine gSt (gStep_run rfl (gRun_move 10 6 (.inr rfl) rfl (by decide +kernel) (fun v w h => h))) ?_
    exact gSt0
  · intro W hC
    refine gFi 7 rfl ?_
    rintro _ rfl
    refine gFi 8 rfl ?_
    rintro u8 b8
    refine gFi 9 rfl ?_
    rintro _ rfl
    refine gFi 10 rfl ?_
    rintro u10 b10
    refine gFi 5 rfl ?_
    rintro u5 b5
    refine gFi 6 rfl ?_
    rintro u6 b6
    refine gFi0 ?_
    simp only [List.drop_succ_cons, List.drop_zero, Act.put, List.setIfInBounds_toArray, List.set_cons_succ, List.set_cons_zero]
    have HS := hide hC
    clear hC h1
    go_wp2_with fail
    refine (HLN.out _ _ b6).mono ?_
    rintro e wl ⟨rfl, hw⟩
    subst wl
    go_wp2_with fail
    refine (HLN.out _ _ b6).mono ?_
    rintro e wl ⟨rfl, hw⟩
    subst wl
    go_wp2_with fail
    refine (HSH.out _ _ b6).mono ?_
    rintro e w2 ⟨vs, rfl, hvs, hb2⟩
    replace b5 := BigV.below b5 hb2
    replace HS := hide (HS.out.below hb2)
    clear hb2 b6
    go_wp2_with fail
    refine (HCM.out _ _ _ b5 hvs).mono ?_
    rintro e wl ⟨rfl, hw⟩
    subst wl
    have HB := hide HS.out.bel
    clear HS
    go_wp2
    go_ret
    exact ⟨rfl, HB.out⟩

set_option maxHeartbeats 2000000 in
theorem rmay_N (n d L s : Nat) (q : Int)
    (HBN : Hid (∀ w, Calls Try.prog 19 #[.agg #[.int .u64 (dgl (n) 0 : Nat), .int .u64 (dgl (n) 1 : Nat), .int .u64 (dgl (n) 2 : Nat), .int .u64 (dgl (n) 3 : Nat), .int .u64 (dgl (n) 4 : Nat), .int .u64 (dgl (n) 5 : Nat), .int .u64 (dgl (n) 6 : Nat), .int .u64 (dgl (n) 7 : Nat)]] w fun e w' => ∃ v, e = .returned v ∧ BigV w' v n 40 ∧ Below w.heap.size w w'))
    (HBD : Hid (∀ w, Calls Try.prog 19 #[.agg #[.int .u64 (dgl (d) 0 : Nat), .int .u64 (dgl (d) 1 : Nat), .int .u64 (dgl (d) 2 : Nat), .int .u64 (dgl (d) 3 : Nat), .int .u64 (dgl (d) 4 : Nat), .int .u64 (dgl (d) 5 : Nat), .int .u64 (dgl (d) 6 : Nat), .int .u64 (dgl (d) 7 : Nat)]] w fun e w' => ∃ v, e = .returned v ∧ BigV w' v d 40 ∧ Below w.heap.size w w'))
    (HLN : Hid (∀ v w, BigV w v d 40 → Calls Try.prog 28 #[v] w fun e w' => e = .returned (.int .i64 ((L : Nat) : Int)) ∧ w' = w))
    (hL : 0 < L) (hL2 : L ≤ 120)
    (HSH : Hid (∀ v w, BigV w v d 40 → Calls Try.prog 21 #[v, .int .i64 128] w fun e w' => ∃ v', e = .returned v' ∧ BigV w' v' s 50 ∧ Below w.heap.size w w'))
    (HCM : Hid (∀ u v w, BigV w u n 40 → BigV w v s 50 → Calls Try.prog 20 #[u, v] w fun e w' => e = .returned (.int .i64 q) ∧ w' = w))
    (hq : ¬ 0 ≤ q) (w : World) :
    Calls Try.prog 23 #[.agg #[.int .u64 (dgl (n) 0 : Nat), .int .u64 (dgl (n) 1 : Nat), .int .u64 (dgl (n) 2 : Nat), .int .u64 (dgl (n) 3 : Nat), .int .u64 (dgl (n) 4 : Nat), .int .u64 (dgl (n) 5 : Nat), .int .u64 (dgl (n) 6 : Nat), .int .u64 (dgl (n) 7 : Nat)], .agg #[.int .u64 (dgl (d) 0 : Nat), .int .u64 (dgl (d) 1 : Nat), .int .u64 (dgl (d) 2 : Nat), .int .u64 (dgl (d) 3 : Nat), .int .u64 (dgl (d) 4 : Nat), .int .u64 (dgl (d) 5 : Nat), .int .u64 (dgl (d) 6 : Nat), .int .u64 (dgl (d) 7 : Nat)]] w fun e w' => e = .returned (.int .i64 0) ∧ Below w.heap.size w w' := by
  have HS := hide (twSt_start n d w 32 32)
  have hl0 : (((L : Nat) : Int) == 0) = false := by rw [beq_eq_false_iff_ne]; omega
  have hl1 : ¬ (120 : Int) < (L : Int) := by omega
  clear hL
  go_enter Try.func23, Try.ntmps23
  go_upto_region 1 with fail
  refine wp_gen (fun W => TwSt n d w W) HS.out ?_
  clear HS
  rintro W1 h1
  refine wp_region_grow 6 [(7, .val (.agg #[.int .u64 (dgl (n) 0 : Nat), .int .u64 (dgl (n) 1 : Nat), .int .u64 (dgl (n) 2 : Nat), .int .u64 (dgl (n) 3 : Nat), .int .u64 (dgl (n) 4 : Nat), .int .u64 (dgl (n) 5 : Nat), .int .u64 (dgl (n) 6 : Nat), .int .u64 (dgl (n) 7 : Nat)])), (8, .big n 40), (9, .val (.agg #[.int .u64 (dgl (d) 0 : Nat), .int .u64 (dgl (d) 1 : Nat), .int .u64 (dgl (d) 2 : Nat), .int .u64 (dgl (d) 3 : Nat), .int .u64 (dgl (d) 4 : Nat), .int .u64 (dgl (d) 5 : Nat), .int .u64 (dgl (d) 6 : Nat), .int .u64 (dgl (d) 7 : Nat)])), (10, .big d 40), (5, .big n 40), (6, .big d 40)]
    (fun W => TwSt n d w W) mixedOk (by kernel_rfl) (by kernel_rfl) (h1.below (Below.refl _ _).drew) (fun W W' h hb => h.below hb) ?_ ?_
  · refine gSt (gStep_run rfl ?_) ?_
    · intro ρ W hC hc hf hL
      have e2 : ρ (.tmp 2) = .pointer (some ⟨w.heap.size, 0, none⟩) := hL 2 (by decide +kernel)
      have hl := hC.la.1
      simp [go_sem, hc, hf, e2, hl]
      exact ⟨Below.refl _ _, rfl⟩
    refine gSt (gStep_run rfl ?_) ?_
    · intro ρ W hC hc hf hL
      have e7 : ρ (.tmp 7) = .agg #[.int .u64 (dgl (n) 0 : Nat), .int .u64 (dgl (n) 1 : Nat), .int .u64 (dgl (n) 2 : Nat), .int .u64 (dgl (n) 3 : Nat), .int .u64 (dgl (n) 4 : Nat), .int .u64 (dgl (n) 5 : Nat), .int .u64 (dgl (n) 6 : Nat), .int .u64 (dgl (n) 7 : Nat)] := hL 7 (by decide +kernel)
      simp [go_sem, hc, hf, e7]
      refine (HBN.out W).mono ?_
      rintro e w' ⟨v, rfl, hv, hb⟩
      exact ⟨_, rfl, hb, hv⟩
    refine gSt (gStep_run rfl ?_) ?_
    · intro ρ W hC hc hf hL
      have e3 : ρ (.tmp 3) = .pointer (some ⟨w.heap.size + 1, 0, none⟩) := hL 3 (by decide +kernel)
      have hl := hC.lb.1
      simp [go_sem, hc, hf, e3, hl]
      exact ⟨Below.refl _ _, rfl⟩
    refine gSt (gStep_run rfl ?_) ?_
    · intro ρ W hC hc hf hL
      have e9 : ρ (.tmp 9) = .agg #[.int .u64 (dgl (d) 0 : Nat), .int .u64 (dgl (d) 1 : Nat), .int .u64 (dgl (d) 2 : Nat), .int .u64 (dgl (d) 3 : Nat), .int .u64 (dgl (d) 4 : Nat), .int .u64 (dgl (d) 5 : Nat), .int .u64 (dgl (d) 6 : Nat), .int .u64 (dgl (d) 7 : Nat)] := hL 9 (by decide +kernel)
      simp [go_sem, hc, hf, e9]
      refine (HBD.out W).mono ?_
      rintro e w' ⟨v, rfl, hv, hb⟩
      exact ⟨_, rfl, hb, hv⟩
    refine gSt (gStep_run rfl (gRun_move 8 5 (.inr rfl) rfl (by decide +kernel) (fun v w h => h))) ?_
    refine gSt (gStep_run rfl (gRun_move 10 6 (.inr rfl) rfl (by decide +kernel) (fun v w h => h))) ?_
    exact gSt0
  · intro W hC
    refine gFi 7 rfl ?_
    rintro _ rfl
    refine gFi 8 rfl ?_
    rintro u8 b8
    refine gFi 9 rfl ?_
    rintro _ rfl
    refine gFi 10 rfl ?_
    rintro u10 b10
    refine gFi 5 rfl ?_
    rintro u5 b5
    refine gFi 6 rfl ?_
    rintro u6 b6
    refine gFi0 ?_
    simp only [List.drop_succ_cons, List.drop_zero, Act.put, List.setIfInBounds_toArray, List.set_cons_succ, List.set_cons_zero]
    have HS := hide hC
    clear hC h1
    go_wp2_with fail
    refine (HLN.out _ _ b6).mono ?_
    rintro e wl ⟨rfl, hw⟩
    subst wl
    go_wp2_with fail
    refine (HLN.out _ _ b6).mono ?_
    rintro e wl ⟨rfl, hw⟩
    subst wl
    go_wp2_with fail
    refine (HSH.out _ _ b6).mono ?_
    rintro e w2 ⟨vs, rfl, hvs, hb2⟩
    replace b5 := BigV.below b5 hb2
    replace HS := hide (HS.out.below hb2)
    clear hb2 b6
    go_wp2_with fail
    refine (HCM.out _ _ _ b5 hvs).mono ?_
    rintro e wl ⟨rfl, hw⟩
    subst wl
    have HB := hide HS.out.bel
    clear HS
    go_wp2
    go_ret
    exact ⟨rfl, HB.out⟩

theorem rmay_any (n d : Nat) (hn : n < QQ) (hd : d < QQ) (w : World) : Calls Try.prog 23 #[.agg #[.int .u64 (dgl (n) 0 : Nat), .int .u64 (dgl (n) 1 : Nat), .int .u64 (dgl (n) 2 : Nat), .int .u64 (dgl (n) 3 : Nat), .int .u64 (dgl (n) 4 : Nat), .int .u64 (dgl (n) 5 : Nat), .int .u64 (dgl (n) 6 : Nat), .int .u64 (dgl (n) 7 : Nat)], .agg #[.int .u64 (dgl (d) 0 : Nat), .int .u64 (dgl (d) 1 : Nat), .int .u64 (dgl (d) 2 : Nat), .int .u64 (dgl (d) 3 : Nat), .int .u64 (dgl (d) 4 : Nat), .int .u64 (dgl (d) 5 : Nat), .int .u64 (dgl (d) 6 : Nat), .int .u64 (dgl (d) 7 : Nat)]] w fun e w' => e = .returned (.int .i64 ((mayN n d : Nat) : Int)) ∧ Below w.heap.size w w' := by
  have HBN := fun w => refBig_any n hn w
  have HBD := fun w => refBig_any d hd w
  have HLN := fun v w (h : BigV w v d 40) => refLen_any d 40 v w h (by decide)
  unfold mayN
  by_cases h1 : d = 0
  · rw [if_pos h1]
    exact rmay_Z n d _ 0 0 HBN HBD HLN (bitLen_zero.2 h1) w
  rw [if_neg h1]
  by_cases h2 : 2 ^ 120 ≤ d
  · rw [if_pos h2]
    exact rmay_B n d _ 0 0 HBN HBD HLN ((bitLen_above d 120).2 h2) w
  rw [if_neg h2]
  have hL : 0 < Go.bitLen d := by
    rcases Nat.eq_zero_or_pos (Go.bitLen d) with h | h
    · exact absurd (bitLen_zero.1 h) h1
    · exact h
  have hL2 : Go.bitLen d ≤ 120 := by
    rcases Nat.lt_or_ge 120 (Go.bitLen d) with h | h
    · exact absurd ((bitLen_above d 120).1 h) h2
    · exact h
  have HSH : ∀ v w, BigV w v d 40 → Calls Try.prog 21 #[v, .int .i64 128] w fun e w' => ∃ v', e = .returned v' ∧ BigV w' v' (d * 2 ^ 128) 50 ∧ Below w.heap.size w w' := by
    intro v w h
    refine (refShl_int d 40 128 128 v w h (by decide) (by decide) rfl).mono ?_
    rintro e w' ⟨v', e1, e2, e3⟩
    exact ⟨v', e1, e2.mono (by decide), e3⟩
  generalize d * 2 ^ 128 = s at *
  have HCM : ∀ u v w, BigV w u n 40 → BigV w v s 50 → Calls Try.prog 20 #[u, v] w fun e w' => e = .returned (.int .i64 (cmpN n s)) ∧ w' = w := fun u v w h1 h2 => cmp_any n s 40 50 u v w h1 h2
  by_cases h3 : s ≤ n
  · rw [if_pos h3]
    exact rmay_G n d _ _ _ HBN HBD HLN hL hL2 HSH HCM (by unfold cmpN; split <;> omega) w
  · rw [if_neg h3]
    exact rmay_N n d _ _ _ HBN HBD HLN hL hL2 HSH HCM (by unfold cmpN; split <;> omega) w

set_option maxHeartbeats 2000000 in
theorem refQuotient_any (n d K D : Nat) (vn vd : Value) (hK : K ≤ 1000) (hD : D ≤ 1000) (hd : 0 < d) (hq : n / d < 2 ^ 131) (w : World) (hvn : BigV w vn n K) (hvd : BigV w vd d D) :
    Calls Try.prog 52 #[vn, vd] w fun e w' => ∃ v, e = .returned v ∧ BigV w' v (n / d) 200 ∧ Below w.heap.size w w' := by
  have HN := hide hvn
  have HD := hide hvd
  have HPW : Hid (∀ i : Nat, i < 131 → ∀ w, Calls Try.prog 38 #[.int .i64 (i : Nat)] w fun e w' => ∃ v, e = .returned v ∧ BigV w' v (2 ^ i) 8 ∧ Below w.heap.size w w') := fun i hi w =>
    (refPower_any i (2 ^ i) (by omega) rfl w).mono fun e w' ⟨v, e1, e2, e3⟩ => ⟨v, e1, e2.mono (by omega), e3⟩
  have HADD : Hid (∀ (a b C : Nat) u v w, C ≤ 200 → 8 ≤ C → BigV w u a C → BigV w v b 8 → Calls Try.prog 37 #[u, v] w fun e w' => ∃ v, e = .returned v ∧ BigV w' v (a + b) (C + 1) ∧ Below w.heap.size w w') := fun a b C u v w hC h8 hu hv =>
    (refAdd_any a b C 8 u v w hu hv (by omega) (by omega)).mono fun e w' ⟨v, e1, e2, e3⟩ => ⟨v, e1, e2.mono (by omega), e3⟩
  have HMU : Hid (∀ (a C : Nat) u w, C ≤ 200 → BigV w u a C → BigV w vd d D → Calls Try.prog 17 #[u, vd] w fun e w' => ∃ v, e = .returned v ∧ BigV w' v (a * d) (C + D) ∧ Below w.heap.size w w') := fun a C u w hC hu hv =>
    refMul_any a d C D u vd w hu hv (by omega) (by omega)
  have HCM : Hid (∀ (a C : Nat) u w, BigV w u a C → BigV w vn n K → Calls Try.prog 20 #[u, vn] w fun e w' => e = .returned (.int .i64 (cmpN a n)) ∧ w' = w) := fun a C u w hu hv => cmp_any a n C K u vn w hu hv
  have HIF : Hid (∀ c, cmpN ((hiN (n / d) (c + 1) + 2 ^ c) * d) n ≤ 0 ↔ n / d / 2 ^ c % 2 = 1) := by
    intro c
    rw [← quo_iff hd]
    unfold cmpN
    split
    · omega
    · split <;> omega
  have HQ0 : Hid (hiN (n / d) 131 = 0) := hiN_top hq
  clear hvn hvd hd hq hK hD
  generalize n / d = Q at *
  go_enter Try.func52, Try.ntmps52
  go_wp2
  go_loopw [5, 6] (fun q i wr => ∃ (c : Nat) (zi : Int), c ≤ 131 ∧ Hid (zi = (c : Int) - 1) ∧ i = .int .i64 zi ∧ Hid (BigV wr q (hiN Q c) (141 - c)) ∧ Hid (Below w.heap.size w wr))
    (fun _ i _ => (intOf i + 1).toNat)
  case atStart =>
    exact ⟨131, 130, by omega, hide rfl, rfl, by rw [HQ0.out]; exact (mk0_big _ _).mono (by omega), below_allocs _ _⟩
  case round =>
    obtain ⟨c, zi, hc, hzi, rfl, HBQ, HB⟩ := hrel
    rename_i qv _
    by_cases hz0 : 0 ≤ zi
    · obtain ⟨p, rfl⟩ : ∃ p : Nat, zi = (p : Int) := ⟨zi.toNat, by omega⟩
      obtain rfl : c = p + 1 := by have := hzi.out; omega
      have hp : p < 131 := hc
      clear hzi hc
      go_wp2_with fail
      refine (HPW.out p hp _).mono ?_
      rintro e w1 ⟨vp, rfl, hvp, hb1⟩
      replace HBQ := hide (HBQ.out.below hb1)
      replace HB := hide (below_trans HB.out hb1)
      clear hb1
      go_wp2_with fail
      refine (HADD.out _ _ _ _ _ _ (by omega) (by omega) HBQ.out hvp).mono ?_
      rintro e w2 ⟨vm, rfl, hvm, hb2⟩
      replace HBQ := hide (HBQ.out.below hb2)
      replace HB := hide (below_trans HB.out hb2)
      clear hb2 hvp
      go_wp2_with fail
      refine (HMU.out _ _ _ _ (by omega) hvm (HD.out.below HB.out)).mono ?_
      rintro e w3 ⟨vx, rfl, hvx, hb3⟩
      replace HBQ := hide (HBQ.out.below hb3)
      have HVM := hide (BigV.below hvm hb3)
      replace HB := hide (below_trans HB.out hb3)
      clear hb3 hvm
      go_wp2_with fail
      refine (HCM.out _ _ _ _ hvx (HN.out.below HB.out)).mono ?_
      rintro e wl ⟨rfl, hw⟩
      subst wl
      clear hvx
      have HI := hide (HIF.out p)
      have HON : Hid (Q / 2 ^ p % 2 = 1 → hiN Q p = hiN Q (p + 1) + 2 ^ p) := hiN_on
      have HOF : Hid (Q / 2 ^ p % 2 = 0 → hiN Q p = hiN Q (p + 1)) := hiN_off
      have HBC := hide (bitN_cases Q p)
      generalize cmpN ((hiN Q (p + 1) + 2 ^ p) * d) n = z at *
      have hw : IntKind.i64.wrap ((p : Int) - 1) = (p : Int) - 1 := by rw [IntKind.wrap_i64]; omega
      by_cases hz : z ≤ 0
      · have HE := hide (HON.out (HI.out.1 hz))
        clear HON HOF HI HBC
        go_wp2
        go_roundw
        case rel => exact ⟨p, (p : Int) - 1, by omega, hide rfl, rfl, by rw [HE.out]; exact HVM.out.mono (by omega), HB⟩
        case measure => first | (simp [intOf]; done) | (simp [intOf]; omega)
      · have HE := hide (HOF.out (by rcases HBC.out with h | h; exact h; exact absurd (HI.out.2 h) hz))
        clear HON HOF HI HBC
        go_wp2
        go_roundw
        case rel => exact ⟨p, (p : Int) - 1, by omega, hide rfl, rfl, by rw [HE.out]; exact HBQ.out.mono (by omega), HB⟩
        case measure => first | (simp [intOf]; done) | (simp [intOf]; omega)
    · obtain rfl : zi = -1 := by have := hzi.out; omega
      obtain rfl : c = 0 := by have := hzi.out; omega
      rw [hiN_zero] at HBQ
      go_wp2
      go_ret
      exact ⟨_, rfl, HBQ.out.mono (by decide), HB.out⟩

end Go.Proofs.Yteocibahclpegaa

/- Likewise; behind the region the blocks that it laid are told apart. -/
set_option linter.unusedVariables false
set_option linter.unusedSimpArgs false
set_option maxRecDepth 8000
namespace Go.Proofs.Yteocibahclpegaa
open Go.RowKit Plain

section
variable {P : Program} {ops : Array Oper} {n : Nat} {a : Act} {T : List Bool → List (Nat × SlotIs)} {C : List Bool → World → Prop} {Q : Exit → Act → World → Prop} {ss : List Nat} {fs : List Nat}
theorem growL_any {ds : List Nat} (hTd : ∀ bs, (T bs).map Prod.fst = ds) (hB : gOkB ops n ds = true) (hss : ∀ i ∈ ss, i < n) (hCs : ∀ bs w w', C bs w → Below w.heap.size w w' → C bs w') (hsz : ∀ d ∈ ds, d < a.tmps.size)
    (hst : jSteps P ops a T C ss fs 0 (ops.toList.take n)) (hf : ∀ w', C (ss.map fun _ => true) w' → gFin a (T (ss.map fun _ => true)) (fun a' => apart fs a'.eval w' → wpList P ops Q (ops.toList.drop n) a' w') w' (ops.toList.take n) a) :
    ∀ (f : Nat) (L : List Nat) (listed : Array Bool) (A : Act) (w : World), L.length = f → L.Nodup → (∀ i, i ∈ L ↔ (i < n ∧ listed.getD i true = false)) →
      HeadInv .any ops n listed → JInv ops n a T ds C ss fs listed A w → wpAny P .any ops Q (f + (ops.size - n)) listed A w := by
  simp only [gOkB, Bool.and_eq_true, decide_eq_true_eq] at hB
  obtain ⟨⟨⟨⟨⟨hn, hlook⟩, hd⟩, hnd⟩, htail⟩, hseq⟩ := hB
  have hlk : ∀ j o, j < n → ops[j]? = some o → (∀ t ∈ o.looksAt ops, ∀ i oi, i < n → ops[i]? = some oi → oi.dst = some t → ∃ e ∈ o.after, Region.binds .any e = true ∧ e.on = i) ∧ (∀ e ∈ o.after, Region.binds .any e = true → e.on < j) := by
    intro j o hj ho
    have h1 := List.all_eq_true.1 hlook j (List.mem_range.2 hj)
    simp only [ho, Bool.and_eq_true] at h1
    constructor
    · intro t ht i oi hi hoi hdi
      have h2 := List.all_eq_true.1 (List.all_eq_true.1 h1.1 t ht) i (List.mem_range.2 hi)
      simp only [hoi, hdi, Bool.or_eq_true] at h2
      rcases h2 with h2 | h2
      · have : Nat.beq t t = true := Nat.beq_refl t
        rw [this] at h2; cases h2
      · obtain ⟨oj, hoj, e, he, hb, hon⟩ := Region.waitsFor_spec h2
        have : oj = o := Option.some.inj (hoj.symm.trans ho)
        subst this
        exact ⟨e, he, hb, hon⟩
    · intro e he hb
      have h2 := (Array.all_eq_true_iff_forall_mem.1 h1.2) e he
      simp only [hb, Bool.not_true, Bool.false_or, decide_eq_true_eq] at h2
      exact h2
  have hdst : ∀ i o, i < n → ops[i]? = some o → ∀ d, o.dst = some d → d ∈ ds := fun i o hi ho d hdo => by
    rw [← hd]
    refine List.mem_filterMap.2 ⟨o, ?_, hdo⟩
    rw [List.mem_iff_getElem?]
    exact ⟨i, by rw [List.getElem?_take_of_lt hi, Array.getElem?_toList]; exact ho⟩
  intro f
  induction f with
  | zero =>
    intro L listed A w hl hnd' hL hinv inv
    have hall : ∀ i, i < n → listed.getD i true = true := fun i hi => by
      cases hc : listed.getD i true
      · have := (hL i).2 ⟨hi, hc⟩
        rw [List.length_eq_zero_iff.1 hl] at this; cases this
      · rfl
    have hlist : listed = Array.replicate n true ++ Array.replicate (ops.size - n) false := by
      apply Array.ext_getElem?
      intro i
      by_cases h1 : i < n
      · have h2 := hall i h1
        have h3 : i < listed.size := by rw [hinv.size]; omega
        simp [h3] at h2
        rw [Array.getElem?_append_left (by simpa using h1)]
        simp [h1, h3, h2]
      · by_cases h4 : i < ops.size
        · have h2 := hinv.tail i (by omega) h4
          have h3 : i < listed.size := by rw [hinv.size]; omega
          simp [h3] at h2
          rw [Array.getElem?_append_right (by simp; omega), Array.getElem?_eq_getElem h3, Array.getElem?_replicate, if_pos (by simp; omega), h2]
        · rw [Array.getElem?_eq_none (by rw [hinv.size]; omega), Array.getElem?_eq_none (by simp; omega)]
    rw [Nat.zero_add]
    have hmap : (ss.map fun i => listed.getD i false) = ss.map fun _ => true := List.map_congr_left (fun i hi => by
      have h1 := hall i (hss i hi)
      have h3 : i < listed.size := by rw [hinv.size]; have := hss i hi; omega
      simp [h3] at h1 ⊢; exact h1)
    have hc1 := inv.c
    have hk1 := inv.known
    rw [hmap] at hc1 hk1
    have hQ := (gFin_use (a := a) (T := T (ss.map fun _ => true)) (w := w) _ A a inv.sz inv.df (by rw [hd]; exact hnd) (fun t ht => inv.kept t (by rw [← hd]; exact ht)) (fun d hdm => hk1 d (fun i oi hi hoi hli => by rw [hall i hi] at hli; cases hli)) (hf w hc1)) inv.ap
    have := wpAny_of_seq (md := .any) (Q' := Q) (ops.toList.drop n) n listed A w (fun j => by simp [List.getElem?_drop]) (by rw [hlist]; simpa using hseq) hQ
    simpa using this
  | succ f ih =>
    intro L listed A w hl hnd' hL hinv inv
    have hne : ∃ i, i < n ∧ listed.getD i true = false := by
      cases L with
      | nil => cases hl
      | cons i L => exact ⟨i, (hL i).1 (by simp)⟩
    have hready : Region.ready .any ops listed ≠ [] := by
      intro hr
      obtain ⟨i, hi, hli⟩ := hne
      have key : ∀ m, ∀ j, j < m → j < n → listed.getD j true = true := by
        intro m
        induction m with
        | zero => intro j hj; omega
        | succ m ihm =>
          intro j hj hjn
          rcases Nat.lt_or_ge j m with h | h
          · exact ihm j h hjn
          · cases hc : listed.getD j true
            · have hjs : j < ops.size := by omega
              have : j ∈ Region.ready .any ops listed := mem_ready.2 ⟨hc, ops[j], by simp [hjs], fun e he hb => by
                have h1 := (hlk j ops[j] hjn (by simp [hjs])).2 e he hb
                have h2 := ihm e.on (by omega) (by omega)
                have h3 : e.on < listed.size := by rw [hinv.size]; omega
                simp [h3] at h2 ⊢; exact h2⟩
              rw [hr] at this; cases this
            · rfl
      rw [key (i + 1) i (by omega) hi] at hli; cases hli
    rw [show f + 1 + (ops.size - n) = (f + (ops.size - n)) + 1 by omega]
    refine ⟨fun h => absurd h hready, fun i hi => ?_⟩
    have hin : i < n := by
      rcases Nat.lt_or_ge i n with h | h
      · exact h
      · simp only [Bool.or_eq_true, Bool.and_eq_true, decide_eq_true_eq] at htail
        rcases htail with ht | ⟨⟨h1, h2⟩, h3⟩
        · obtain ⟨_, o, ho, _⟩ := mem_ready.1 hi
          have := (Array.getElem?_eq_some_iff.1 ho).1
          omega
        · obtain ⟨k, hk, hlk'⟩ := hne
          exact absurd hi (tail_waits h2 h3 h1 hinv _ k rfl hk hlk' i h)
    obtain ⟨hun, o, ho, hafter⟩ := mem_ready.1 hi
    have hlooks : ∀ t ∈ o.looksAt ops, tbl a t (T (ss.map fun i => listed.getD i false)) (A.eval (.tmp t)) w := fun t ht => inv.known t (fun j oj hj hoj hlj hdj => by
      obtain ⟨e, he, hb, hon⟩ := (hlk i o hin ho).1 t ht j oj hj hoj hdj
      have h1 := hafter e he hb
      rw [hon, getD_both hlj] at h1; cases h1)
    have hnext : ∀ v w', (∀ t, tbl a t (T (ss.map fun i => listed.getD i false)) (A.eval (.tmp t)) w → tbl a t (T (ss.map fun j => (listed.setIfInBounds i true).getD j false)) (A.eval (.tmp t)) w') → (match o.dst with | some d => tbl a d (T (ss.map fun j => (listed.setIfInBounds i true).getD j false)) v w' | none => True) → C (ss.map fun j => (listed.setIfInBounds i true).getD j false) w' → apart fs (A.put o.dst v).eval w' →
        wpAny P .any ops Q (f + (ops.size - n)) (listed.setIfInBounds i true) (A.put o.dst v) w' := fun v w' hmon hp hc' hap => by
      refine ih (L.erase i) _ _ _ ?_ (hnd'.erase i) (fun j => ?_) (hinv.set hi hin) ⟨hc', by rw [put_sz]; exact inv.sz, by rw [put_df]; exact inv.df, fun t ht => ?_, fun t ht => ?_, hap⟩
      · rw [List.length_erase_of_mem ((hL i).2 ⟨hin, hun⟩), hl]; rfl
      · rw [hnd'.mem_erase_iff, hL j]
        constructor
        · rintro ⟨h1, h2, h3⟩
          exact ⟨h2, by rw [getD_set_ne true (fun e => h1 e.symm)]; exact h3⟩
        · rintro ⟨h2, h3⟩
          by_cases hij : i = j
          · subst hij
            have : i < listed.size := by rw [hinv.size]; omega
            simp [this] at h3
          · rw [getD_set_ne true hij] at h3
            exact ⟨fun e => hij e.symm, h2, h3⟩
      · rw [← inv.kept t ht]
        cases hdo : o.dst with
        | none => rfl
        | some d =>
          have : d ≠ t := fun e => ht (e ▸ hdst i o hin ho d hdo)
          simp [Act.put, Array.getElem?_setIfInBounds_ne this]
      · by_cases hdt : o.dst = some t
        · rw [hdt] at hp
          have e : (A.put o.dst v).eval (.tmp t) = v := by
            rw [hdt]
            have : t < A.tmps.size := by rw [inv.sz]; exact hsz t (hdst i o hin ho t hdt)
            simp [Act.put, Act.eval, this]
          rw [e]; exact hp
        · have e : (A.put o.dst v).eval (.tmp t) = A.eval (.tmp t) := Act.eval_put (fun d h1 h2 => hdt (by rw [h1]; cases h2; rfl))
          rw [e]
          refine hmon t (inv.known t fun j oj hj hoj hl => ?_)
          by_cases hij : i = j
          · subst hij
            have : oj = o := Option.some.inj (hoj.symm.trans ho)
            subst this; exact hdt
          · exact ht j oj hj hoj (by rw [getD_set_ne true hij]; exact hl)
    have hget := jSteps_get _ 0 i o (by rw [List.getElem?_take_of_lt hin, Array.getElem?_toList]; exact ho) hst
    rw [Nat.zero_add] at hget
    have hils : i < listed.size := by rw [hinv.size]; omega
    unfold wpOp
    simp only [ho]
    cases hsi : ss.contains i with
    | true =>
      rw [hsi] at hget
      obtain ⟨hd0, hg0, hgo⟩ := hget
      have hw : Region.wanted o (yielded ops A.tmps) = true := by unfold Region.wanted; rw [hg0]
      rw [if_pos hw]
      have hmp : (ss.map fun j => listed.getD j false || Nat.beq j i) = ss.map fun j => (listed.setIfInBounds i true).getD j false := List.map_congr_left (fun j _ => by
        by_cases hij : i = j
        · subst hij
          have : Nat.beq i i = true := Nat.beq_refl i
          simp [hils, this]
        · rw [getD_set_ne false hij]
          have : Nat.beq j i = false := by
            cases hb : Nat.beq j i
            · rfl
            · exact absurd (Nat.eq_of_beq_eq_true hb).symm hij
          simp [this])
      have hrun := hgo (fun j => listed.getD j false) A.eval w (getD_both hun) inv.c (fun _ => rfl) inv.ap hlooks
      rw [hmp] at hrun
      exact .inl (wp_of_gOp (fun v w' hk => hnext v w' hk.2.2 (by rw [hd0]; trivial) hk.1 (by rw [hd0]; exact inv.ap.grow hk.2.1)) hrun)
    | false =>
      rw [hsi] at hget
      have hstep := hget (fun j => listed.getD j false) (fun s hs hw => by
        obtain ⟨os, hos, e, he, hb, hon⟩ := Region.waitsFor_spec hw
        cases hl2 : listed.getD s false
        · rfl
        · have h2 := hinv.closed s os hos hl2 e he hb
          rw [hon, getD_both hun] at h2
          cases h2)
      have hsame : (ss.map fun j => (listed.setIfInBounds i true).getD j false) = ss.map fun j => listed.getD j false := List.map_congr_left (fun j hj => by
        refine getD_set_ne false (fun e => ?_)
        subst e
        rw [List.contains_iff_mem.2 hj] at hsi
        cases hsi)
      have go : ∀ v w', gPost a (T (ss.map fun j => listed.getD j false)) o w v w' → apart fs (A.put o.dst v).eval w' → wpAny P .any ops Q (f + (ops.size - n)) (listed.setIfInBounds i true) (A.put o.dst v) w' := fun v w' hp hap =>
        hnext v w' (fun t => by rw [hsame]; exact tbl_mono a t _ w w' hp.1 _) (by rw [hsame]; exact hp.2) (by rw [hsame]; exact hCs _ _ _ inv.c hp.1) hap
      cases hdf : o.dst.any fs.contains with
      | true =>
        rw [hdf] at hstep
        obtain ⟨hg0, hfr⟩ := hstep
        have hw : Region.wanted o (yielded ops A.tmps) = true := by unfold Region.wanted; rw [hg0]
        rw [if_pos hw]
        exact .inl (wp_of_gOp (fun v w' hk => go v w' hk.1 (inv.ap.fresh (fun d hd => by rw [inv.sz]; exact hsz d (hdst i o hin ho d hd)) hk.1.1.size hk.2)) (hfr A.eval w inv.c (fun _ => rfl) hlooks))
      | false =>
        rw [hdf] at hstep
        have hst2 := hstep A w inv.c hlooks
        have hap : ∀ v w', Below w.heap.size w w' → apart fs (A.put o.dst v).eval w' := fun v w' hb => inv.ap.other hdf hb.size
        split
        · rename_i hw
          simp only [hw, if_true] at hst2
          exact .inl (wp_of_gOp (fun v w' hk => go v w' hk (hap v w' hk.1)) hst2)
        · rename_i hw
          simp only [hw] at hst2
          exact go _ _ hst2 (hap _ _ hst2.1)

theorem wp_region_storeL {id : Nat} {w : World} {l : List Oper} (n : Nat) (ss fs : List Nat) (ds : List Nat) (T : List Bool → List (Nat × SlotIs)) (C : List Bool → World → Prop) (hTd : ∀ bs, (T bs).map Prod.fst = ds) (hm : P.follows .mixedOrders = true) (hB : gOkB l.toArray n ds = true)
    (hsz : ds.all (fun d => Nat.blt d a.tmps.size) = true) (hss : ss.all (fun i => Nat.blt i n) = true) (hap : apart fs a.eval w.drew) (hC : C (ss.map fun _ => false) w.drew) (hCs : ∀ bs w w', C bs w → Below w.heap.size w w' → C bs w')
    (hst : jSteps P l.toArray a T C ss fs 0 (l.take n)) (hf : ∀ w', C (ss.map fun _ => true) w' → gFin a (T (ss.map fun _ => true)) (fun a' => apart fs a'.eval w' → wpList P l.toArray Q (l.drop n) a' w') w' (l.take n) a) :
    (Code.region id l.toArray true).wp P Q a w := by
  refine wp_region_any hm ?_
  have hn : n ≤ l.toArray.size := by
    simp only [gOkB, Bool.and_eq_true, decide_eq_true_eq] at hB
    exact hB.1.1.1.1.1
  have := growL_any (P := P) (ops := l.toArray) (n := n) (a := a) (T := T) (C := C) (ss := ss) (fs := fs) (Q := Q) hTd hB (fun i hi => by have := List.all_eq_true.1 hss i hi; simpa [Nat.blt_eq] using this) hCs (fun d hd => by have := List.all_eq_true.1 hsz d hd; simpa [Nat.blt_eq] using this) (by simpa using hst) (by simpa using hf) n (List.range n) (Array.replicate l.toArray.size false) a w.drew (by simp) List.nodup_range
    (fun i => by
      rw [List.mem_range]
      constructor
      · intro h
        have : i < l.length := by have : n ≤ l.length := by simpa using hn
                                  omega
        exact ⟨h, by simp [this]⟩
      · exact fun h => h.1)
    ⟨by simp, fun j oj _ hl => (by rw [getD_replicate_false] at hl; cases hl), fun t _ ht => getD_in (by simpa using ht) (getD_replicate_false _ _)⟩
    ⟨by rw [List.map_congr_left (g := fun _ => false) (fun i _ => getD_replicate_false _ _)]; exact hC, rfl, rfl, fun _ _ => rfl, fun t ht => tbl_out a t _ _ rfl (T _) (fun hmem => by
      rw [hTd] at hmem
      have hd : ((l.toArray.toList.take n).filterMap (·.dst)) = ds := by
        simp only [gOkB, Bool.and_eq_true, decide_eq_true_eq] at hB
        exact hB.1.1.1.2
      rw [← hd] at hmem
      obtain ⟨o, ho, hdo⟩ := List.mem_filterMap.1 hmem
      obtain ⟨i, hi⟩ := List.mem_iff_getElem?.1 ho
      have hin : i < n := by
        rcases Nat.lt_or_ge i n with h | h
        · exact h
        · rw [List.getElem?_eq_none (by simp; omega)] at hi; cases hi
      rw [List.getElem?_take_of_lt hin] at hi
      have hil : i < l.length := by
        rcases Nat.lt_or_ge i l.length with h | h
        · exact h
        · rw [List.getElem?_eq_none h] at hi; cases hi
      exact ht i o hin (by simpa using hi) (by simp [hil]) hdo), hap⟩
  rwa [show n + (l.toArray.size - n) = l.toArray.size by omega] at this
end
end Go.Proofs.Yteocibahclpegaa

/- Contracts: wide.Power below 0, wide.Mask, wide.Bit below 0, wide.Low, wide.From. -/
set_option linter.unusedVariables false
set_option linter.unusedSimpArgs false
set_option maxRecDepth 8000
namespace Go.Proofs.Yteocibahclpegaa
open Go.RowKit Plain

theorem widePower_neg (n : Int) (hn : n < 0) (w : World) :
    Calls Try.prog 64 #[.int .i64 n] w fun e w' => e = .returned (.agg #[.int .u64 (dgl (0) 0 : Nat), .int .u64 (dgl (0) 1 : Nat), .int .u64 (dgl (0) 2 : Nat), .int .u64 (dgl (0) 3 : Nat), .int .u64 (dgl (0) 4 : Nat), .int .u64 (dgl (0) 5 : Nat), .int .u64 (dgl (0) 6 : Nat), .int .u64 (dgl (0) 7 : Nat)]) ∧ Below w.heap.size w w' := by
  simp only [dgl_zero]
  go_enter Try.func64, Try.ntmps64
  go_wp2
  exact bodyPost_ret (v := .agg #[.int .u64 0, .int .u64 0, .int .u64 0, .int .u64 0, .int .u64 0, .int .u64 0, .int .u64 0, .int .u64 0]) (by simp [results, Try.results64, go_sem]) rfl ⟨rfl, by first | exact below_allocs _ _ | exact below_set8 (below_allocs _ _) _ (by omega) _ _ _ _ _ _ _ _⟩

end Go.Proofs.Yteocibahclpegaa

