/- Contracts and laws: ProdF, ProdG. -/
import Derived.Test.YtenbomfoihajhaaBaseM
import Derived.Test.YtenbomfoihajhaaBaseK
import Derived.Deep.DeepCutAuto
/- Contracts: prod.High. -/
set_option linter.unusedVariables false
set_option linter.unusedSimpArgs false
set_option maxRecDepth 8000
namespace Go.Proofs.Ytenbomfoihajhaa
open Go.RowKit Plain

set_option maxHeartbeats 4000000 in
theorem prodHigh_low (fa fb : Nat → Nat) (S H q k : Nat) (n : Int) (s : Nat) (rest : Bool) (w : World) (hk5 : k ≤ 512)
    (HSHR : Hid (∀ w, Calls Try.prog 19 #[.agg #[.int .u64 (dgl (S) 0 : Nat), .int .u64 (dgl (S) 1 : Nat), .int .u64 (dgl (S) 2 : Nat), .int .u64 (dgl (S) 3 : Nat), .int .u64 (dgl (S) 4 : Nat), .int .u64 (dgl (S) 5 : Nat), .int .u64 (dgl (S) 6 : Nat), .int .u64 (dgl (S) 7 : Nat)], .int .i64 (k : Nat)] w fun e w' => e = .returned (.tuple #[.agg #[.int .u64 (dgl (q) 0 : Nat), .int .u64 (dgl (q) 1 : Nat), .int .u64 (dgl (q) 2 : Nat), .int .u64 (dgl (q) 3 : Nat), .int .u64 (dgl (q) 4 : Nat), .int .u64 (dgl (q) 5 : Nat), .int .u64 (dgl (q) 6 : Nat), .int .u64 (dgl (q) 7 : Nat)], .bool rest]) ∧ Below w.heap.size w w'))
    (HSHL : Hid (∀ w, Calls Try.prog 20 #[.agg #[.int .u64 (dgl (H) 0 : Nat), .int .u64 (dgl (H) 1 : Nat), .int .u64 (dgl (H) 2 : Nat), .int .u64 (dgl (H) 3 : Nat), .int .u64 (dgl (H) 4 : Nat), .int .u64 (dgl (H) 5 : Nat), .int .u64 (dgl (H) 6 : Nat), .int .u64 (dgl (H) 7 : Nat)], .int .i64 (512 - (k : Int))] w fun e w' => e = .returned (.agg #[.int .u64 (dgl (s) 0 : Nat), .int .u64 (dgl (s) 1 : Nat), .int .u64 (dgl (s) 2 : Nat), .int .u64 (dgl (s) 3 : Nat), .int .u64 (dgl (s) 4 : Nat), .int .u64 (dgl (s) 5 : Nat), .int .u64 (dgl (s) 6 : Nat), .int .u64 (dgl (s) 7 : Nat)]) ∧ Below w.heap.size w w'))
    (HSU : Hid (∀ v w, RdW w v [q, s] → Calls Try.prog 54 #[v] w fun e w' => e = .returned (.agg #[.int .u64 (dgl (q + s) 0 : Nat), .int .u64 (dgl (q + s) 1 : Nat), .int .u64 (dgl (q + s) 2 : Nat), .int .u64 (dgl (q + s) 3 : Nat), .int .u64 (dgl (q + s) 4 : Nat), .int .u64 (dgl (q + s) 5 : Nat), .int .u64 (dgl (q + s) 6 : Nat), .int .u64 (dgl (q + s) 7 : Nat)]) ∧ Below w.heap.size w w'))
    (HK : Hid ((k : Int) = max n 0))
    (HSUM : Hid (∀ w, Calls Try.prog 80 #[.agg #[.int .u64 (fa 0 : Nat), .int .u64 (fa 1 : Nat), .int .u64 (fa 2 : Nat), .int .u64 (fa 3 : Nat), .int .u64 (fa 4 : Nat), .int .u64 (fa 5 : Nat), .int .u64 (fa 6 : Nat), .int .u64 (fa 7 : Nat)], .agg #[.int .u64 (fb 0 : Nat), .int .u64 (fb 1 : Nat), .int .u64 (fb 2 : Nat), .int .u64 (fb 3 : Nat), .int .u64 (fb 4 : Nat), .int .u64 (fb 5 : Nat), .int .u64 (fb 6 : Nat), .int .u64 (fb 7 : Nat)], .func (.func 81) #[] #[]] w fun e w' => e = .returned (.agg #[.int .u64 (dgl (S) 0 : Nat), .int .u64 (dgl (S) 1 : Nat), .int .u64 (dgl (S) 2 : Nat), .int .u64 (dgl (S) 3 : Nat), .int .u64 (dgl (S) 4 : Nat), .int .u64 (dgl (S) 5 : Nat), .int .u64 (dgl (S) 6 : Nat), .int .u64 (dgl (S) 7 : Nat), .int .u64 (dgl (S) 8 : Nat), .int .u64 (dgl (S) 9 : Nat), .int .u64 (dgl (S) 10 : Nat), .int .u64 (dgl (S) 11 : Nat), .int .u64 (dgl (S) 12 : Nat), .int .u64 (dgl (S) 13 : Nat), .int .u64 (dgl (S) 14 : Nat), .int .u64 (dgl (S) 15 : Nat)]) ∧ Below w.heap.size w w'))
    (HHAL : Hid (∀ w, Calls Try.prog 79 #[.agg #[.int .u64 (dgl (S) 0 : Nat), .int .u64 (dgl (S) 1 : Nat), .int .u64 (dgl (S) 2 : Nat), .int .u64 (dgl (S) 3 : Nat), .int .u64 (dgl (S) 4 : Nat), .int .u64 (dgl (S) 5 : Nat), .int .u64 (dgl (S) 6 : Nat), .int .u64 (dgl (S) 7 : Nat), .int .u64 (dgl (S) 8 : Nat), .int .u64 (dgl (S) 9 : Nat), .int .u64 (dgl (S) 10 : Nat), .int .u64 (dgl (S) 11 : Nat), .int .u64 (dgl (S) 12 : Nat), .int .u64 (dgl (S) 13 : Nat), .int .u64 (dgl (S) 14 : Nat), .int .u64 (dgl (S) 15 : Nat)]] w fun e w' => e = .returned (.tuple #[.agg #[.int .u64 (dgl (S) 0 : Nat), .int .u64 (dgl (S) 1 : Nat), .int .u64 (dgl (S) 2 : Nat), .int .u64 (dgl (S) 3 : Nat), .int .u64 (dgl (S) 4 : Nat), .int .u64 (dgl (S) 5 : Nat), .int .u64 (dgl (S) 6 : Nat), .int .u64 (dgl (S) 7 : Nat)], .agg #[.int .u64 (dgl (H) 0 : Nat), .int .u64 (dgl (H) 1 : Nat), .int .u64 (dgl (H) 2 : Nat), .int .u64 (dgl (H) 3 : Nat), .int .u64 (dgl (H) 4 : Nat), .int .u64 (dgl (H) 5 : Nat), .int .u64 (dgl (H) 6 : Nat), .int .u64 (dgl (H) 7 : Nat)]]) ∧ Below w.heap.size w w')) :
    Calls Try.prog 49 #[.agg #[.int .u64 (fa 0 : Nat), .int .u64 (fa 1 : Nat), .int .u64 (fa 2 : Nat), .int .u64 (fa 3 : Nat), .int .u64 (fa 4 : Nat), .int .u64 (fa 5 : Nat), .int .u64 (fa 6 : Nat), .int .u64 (fa 7 : Nat)], .agg #[.int .u64 (fb 0 : Nat), .int .u64 (fb 1 : Nat), .int .u64 (fb 2 : Nat), .int .u64 (fb 3 : Nat), .int .u64 (fb 4 : Nat), .int .u64 (fb 5 : Nat), .int .u64 (fb 6 : Nat), .int .u64 (fb 7 : Nat)], .int .i64 n] w fun e w' => e = .returned (.tuple #[.agg #[.int .u64 (dgl (q + s) 0 : Nat), .int .u64 (dgl (q + s) 1 : Nat), .int .u64 (dgl (q + s) 2 : Nat), .int .u64 (dgl (q + s) 3 : Nat), .int .u64 (dgl (q + s) 4 : Nat), .int .u64 (dgl (q + s) 5 : Nat), .int .u64 (dgl (q + s) 6 : Nat), .int .u64 (dgl (q + s) 7 : Nat)], .bool rest]) ∧ Below w.heap.size w w' := by
  have HS0 : Hid (ResSt w (w.heap.size + 1 + 1) (fun _ => 0) (((w.alloc (.cells #[.int .u64 (fa 0 : Nat), .int .u64 (fa 1 : Nat), .int .u64 (fa 2 : Nat), .int .u64 (fa 3 : Nat), .int .u64 (fa 4 : Nat), .int .u64 (fa 5 : Nat), .int .u64 (fa 6 : Nat), .int .u64 (fa 7 : Nat)] 24)).alloc (.cells #[.int .u64 (fb 0 : Nat), .int .u64 (fb 1 : Nat), .int .u64 (fb 2 : Nat), .int .u64 (fb 3 : Nat), .int .u64 (fb 4 : Nat), .int .u64 (fb 5 : Nat), .int .u64 (fb 6 : Nat), .int .u64 (fb 7 : Nat)] 24)).alloc (.cells #[.int .u64 0, .int .u64 0, .int .u64 0, .int .u64 0, .int .u64 0, .int .u64 0, .int .u64 0, .int .u64 0] 24))) := by
    have h2 := liesF_new ((w.alloc (.cells #[.int .u64 (fa 0 : Nat), .int .u64 (fa 1 : Nat), .int .u64 (fa 2 : Nat), .int .u64 (fa 3 : Nat), .int .u64 (fa 4 : Nat), .int .u64 (fa 5 : Nat), .int .u64 (fa 6 : Nat), .int .u64 (fa 7 : Nat)] 24)).alloc (.cells #[.int .u64 (fb 0 : Nat), .int .u64 (fb 1 : Nat), .int .u64 (fb 2 : Nat), .int .u64 (fb 3 : Nat), .int .u64 (fb 4 : Nat), .int .u64 (fb 5 : Nat), .int .u64 (fb 6 : Nat), .int .u64 (fb 7 : Nat)] 24)) (fun _ => 0) 24
    simp only [World.size_alloc] at h2
    exact ⟨h2, fun i => by simp [go_sem], below_trans (below_trans (below_allocs _ _) (below_allocs _ _)) (below_allocs _ _)⟩
  go_enter Try.func49, Try.ntmps49
  go_wp2_with fail
  refine (HSUM.out _).mono ?_
  rintro e w1 ⟨rfl, hb1⟩
  have HS1 := hide (HS0.out.below hb1)
  clear HS0 hb1
  go_wp2_with fail
  refine (HHAL.out _).mono ?_
  rintro e w2 ⟨rfl, hb2⟩
  have HS2 := hide (HS1.out.below hb2)
  clear HS1 hb2
  go_upto_region 2 with fail
  refine wp_gen (fun W => ResSt w (w.heap.size + 1 + 1) (fun _ => 0) W ∧ LiesF W w2.heap.size (dgl S) ∧ LiesF W (w2.heap.size + 1) (dgl H)) ?_ ?_
  · have h3 := liesF_new (w2.alloc (.cells #[.int .u64 (dgl (S) 0 : Nat), .int .u64 (dgl (S) 1 : Nat), .int .u64 (dgl (S) 2 : Nat), .int .u64 (dgl (S) 3 : Nat), .int .u64 (dgl (S) 4 : Nat), .int .u64 (dgl (S) 5 : Nat), .int .u64 (dgl (S) 6 : Nat), .int .u64 (dgl (S) 7 : Nat)] 24)) (dgl H) 24
    rw [World.size_alloc] at h3
    exact ⟨(HS2.out.below (below_allocs _ _)).below (below_allocs _ _), (liesF_new w2 (dgl S) 24).alloc _, h3⟩
  rintro W2 h2
  have hp8 : w.heap.size + 1 + 1 < w2.heap.size := HS2.out.lr.2
  generalize hp : w2.heap.size = p8 at *
  obtain ⟨p9, hp9⟩ : ∃ p9, p8 + 1 = p9 := ⟨_, rfl⟩
  rw [hp9] at h2 ⊢
  clear HS2 hp
  go_cut [2] (fun x wx => x = .int .i64 (k : Nat) ∧ wx = W2)
  case first =>
    go_wp2
    all_goals
      go_meet
      exact ⟨by rw [HK.out]; first | done | (congr 1; omega), rfl⟩
  case rest =>
    obtain ⟨rfl, rfl⟩ := hcut
    have HS3 := hide h2
    have hsub : IntKind.i64.wrap (512 - (k : Int)) = 512 - (k : Int) := by rw [IntKind.wrap_i64]; omega
    have hk6 : ¬ (512 : Int) < (k : Int) := by omega
    have hcl := h2.2.1.1
    clear h2
    go_wp2_with fail
    refine (HSHR.out _).mono ?_
    rintro e w3 ⟨rfl, hb3⟩
    have HS4 := hide (show ResSt w (w.heap.size + 1 + 1) (fun _ => 0) w3 ∧ LiesF w3 p8 (dgl S) ∧ LiesF w3 p9 (dgl H) from ⟨HS3.out.1.below hb3, HS3.out.2.1.below hb3, HS3.out.2.2.below hb3⟩)
    clear HS3 hb3 hcl
    go_upto_region 7 with fail
    refine wp_gen (fun W => ResSt w (w.heap.size + 1 + 1) (fun _ => 0) W ∧ LiesF W p8 (dgl S) ∧ LiesF W p9 (dgl H) ∧ LiesF W w3.heap.size (dgl q)) ⟨HS4.out.1.below (below_allocs _ _), HS4.out.2.1.alloc _, HS4.out.2.2.alloc _, liesF_new _ _ _⟩ ?_
    rintro W4 h2
    have hp12 : p8 < w3.heap.size := HS4.out.2.1.2
    generalize w3.heap.size = p12 at *
    clear HS4
    refine wp_region_storeG 9 [8] [(45, .val (.agg #[.int .u64 (dgl (q) 0 : Nat), .int .u64 (dgl (q) 1 : Nat), .int .u64 (dgl (q) 2 : Nat), .int .u64 (dgl (q) 3 : Nat), .int .u64 (dgl (q) 4 : Nat), .int .u64 (dgl (q) 5 : Nat), .int .u64 (dgl (q) 6 : Nat), .int .u64 (dgl (q) 7 : Nat)])), (46, .val (.agg #[.int .u64 (dgl (H) 0 : Nat), .int .u64 (dgl (H) 1 : Nat), .int .u64 (dgl (H) 2 : Nat), .int .u64 (dgl (H) 3 : Nat), .int .u64 (dgl (H) 4 : Nat), .int .u64 (dgl (H) 5 : Nat), .int .u64 (dgl (H) 6 : Nat), .int .u64 (dgl (H) 7 : Nat)])), (47, .val (.int .i64 (k : Nat))), (48, .val (.int .i64 (512 - (k : Int)))), (49, .val (.agg #[.int .u64 (dgl (s) 0 : Nat), .int .u64 (dgl (s) 1 : Nat), .int .u64 (dgl (s) 2 : Nat), .int .u64 (dgl (s) 3 : Nat), .int .u64 (dgl (s) 4 : Nat), .int .u64 (dgl (s) 5 : Nat), .int .u64 (dgl (s) 6 : Nat), .int .u64 (dgl (s) 7 : Nat)])), (50, .wides (w.heap.size + 1 + 1) [q, s]), (51, .val (.agg #[.int .u64 (dgl (q + s) 0 : Nat), .int .u64 (dgl (q + s) 1 : Nat), .int .u64 (dgl (q + s) 2 : Nat), .int .u64 (dgl (q + s) 3 : Nat), .int .u64 (dgl (q + s) 4 : Nat), .int .u64 (dgl (q + s) 5 : Nat), .int .u64 (dgl (q + s) 6 : Nat), .int .u64 (dgl (q + s) 7 : Nat)])), (52, .val (.bool rest))]
      (fun bs W => ResSt w (w.heap.size + 1 + 1) (bif bs.headD false then dgl (q + s) else fun _ => 0) W ∧ LiesF W p8 (dgl S) ∧ LiesF W p9 (dgl H) ∧ LiesF W p12 (dgl q)) (OnlyAt (w.heap.size + 1 + 1)) mixedOk (by kernel_rfl) (by kernel_rfl) (by kernel_rfl) (⟨h2.1.below (Below.refl _ _).drew, h2.2.1, h2.2.2.1, h2.2.2.2⟩) (fun bs W W' h hb => ⟨h.1.below hb, h.2.1.below hb, h.2.2.1.below hb, h.2.2.2.below hb⟩) (fun t v w w' hg => tbl_keeps _ t v w w' _ (by
          intro p hp
          simp only [List.mem_cons, List.not_mem_nil, or_false] at hp
          rcases hp with rfl | rfl | rfl | rfl | rfl | rfl | rfl | rfl
          all_goals first | exact fun h => h | exact fun h => wides_keep hg h)) ?_ ?_
    · refine hSt rfl (fun bs => gStep_run rfl ?_) ?_
      · intro ρ W hC hc hf hL
        have e12 : ρ (.tmp 12) = .pointer (some ⟨p12, 0, none⟩) := hL 12 (by decide +kernel)
        have hl := hC.2.2.2.1
        simp [go_sem, hc, hf, e12, hl]
        exact ⟨Below.refl _ _, rfl⟩
      refine hSt rfl (fun bs => gStep_run rfl ?_) ?_
      · intro ρ W hC hc hf hL
        have e9 : ρ (.tmp 9) = .pointer (some ⟨p9, 0, none⟩) := hL 9 (by decide +kernel)
        have hl := hC.2.2.1.1
        simp [go_sem, hc, hf, e9, hl]
        exact ⟨Below.refl _ _, rfl⟩
      refine hSt rfl (fun bs => gStep_run rfl (gRun_move 2 47 (.inl rfl) rfl (by decide +kernel) (fun v w h => h))) ?_
      refine hSt rfl (fun bs => gStep_run rfl ?_) ?_
      · intro ρ W hC hc hf hL
        have e47 : ρ (.tmp 47) = .int .i64 (k : Nat) := hL 47 (by decide +kernel)
        simp [go_sem, hc, hf, e47, hsub]
        exact ⟨Below.refl _ _, rfl⟩
      refine hSt rfl (fun bs => gStep_run rfl ?_) ?_
      · intro ρ W hC hc hf hL
        have e46 : ρ (.tmp 46) = .agg #[.int .u64 (dgl (H) 0 : Nat), .int .u64 (dgl (H) 1 : Nat), .int .u64 (dgl (H) 2 : Nat), .int .u64 (dgl (H) 3 : Nat), .int .u64 (dgl (H) 4 : Nat), .int .u64 (dgl (H) 5 : Nat), .int .u64 (dgl (H) 6 : Nat), .int .u64 (dgl (H) 7 : Nat)] := hL 46 (by decide +kernel)
        have e48 : ρ (.tmp 48) = .int .i64 (512 - (k : Int)) := hL 48 (by decide +kernel)
        simp [go_sem, hc, hf, e46, e48]
        refine (HSHL.out _).mono ?_
        rintro e w' ⟨rfl, hb⟩
        exact ⟨_, rfl, by first | exact hb | (subst hb; exact Below.refl _ _), rfl⟩
      refine hSt rfl (fun bs => gStep_run rfl ?_) ?_
      · intro ρ W hC hc hf hL
        have e45 : ρ (.tmp 45) = .agg #[.int .u64 (dgl (q) 0 : Nat), .int .u64 (dgl (q) 1 : Nat), .int .u64 (dgl (q) 2 : Nat), .int .u64 (dgl (q) 3 : Nat), .int .u64 (dgl (q) 4 : Nat), .int .u64 (dgl (q) 5 : Nat), .int .u64 (dgl (q) 6 : Nat), .int .u64 (dgl (q) 7 : Nat)] := hL 45 (by decide +kernel)
        have e49 : ρ (.tmp 49) = .agg #[.int .u64 (dgl (s) 0 : Nat), .int .u64 (dgl (s) 1 : Nat), .int .u64 (dgl (s) 2 : Nat), .int .u64 (dgl (s) 3 : Nat), .int .u64 (dgl (s) 4 : Nat), .int .u64 (dgl (s) 5 : Nat), .int .u64 (dgl (s) 6 : Nat), .int .u64 (dgl (s) 7 : Nat)] := hL 49 (by decide +kernel)
        simp [go_sem, hc, hf, e45, e49]
        exact ⟨below_allocs _ _, W.heap.size, rfl, Nat.lt_trans hp8 (Nat.lt_of_lt_of_le hC.2.1.2 (Nat.le_refl _)), by simp, fun i j hi hj => wides2_new W q s _ i j hi hj⟩
      refine hSt rfl (fun bs => gStep_run rfl ?_) ?_
      · intro ρ W hC hc hf hL
        have b50 := hL 50 (by decide +kernel)
        simp [go_sem, hc, hf]
        refine (HSU.out _ _ (wides_rd (by simp) b50)).mono ?_
        rintro e w' ⟨rfl, hb⟩
        exact ⟨_, rfl, by first | exact hb | (subst hb; exact Below.refl _ _), rfl⟩
      refine hSt rfl (fun bs => gStep_run rfl (gRun_move 13 52 (.inl rfl) rfl (by decide +kernel) (fun v w h => h))) ?_
      refine hStS rfl ⟨rfl, rfl, ?_⟩ ?_
      · intro φ ρ W hφ hC hc hL
        have e6 : ρ (.tmp 6) = .pointer (some ⟨w.heap.size + 1 + 1, 0, none⟩) := hL 6 (by decide +kernel)
        have e51 : ρ (.tmp 51) = .agg #[.int .u64 (dgl (q + s) 0 : Nat), .int .u64 (dgl (q + s) 1 : Nat), .int .u64 (dgl (q + s) 2 : Nat), .int .u64 (dgl (q + s) 3 : Nat), .int .u64 (dgl (q + s) 4 : Nat), .int .u64 (dgl (q + s) 5 : Nat), .int .u64 (dgl (q + s) 6 : Nat), .int .u64 (dgl (q + s) 7 : Nat)] := hL 51 (by decide +kernel)
        simp only [List.map_cons, List.map_nil, List.headD_cons, hφ, cond_false] at hC
        have hz := hC.1.lr.1
        have hzl := hC.1.lr.2
        have hzf := hC.1.fr
        simp [go_sem, hc, e6, e51, hz, hzf, hzl]
        exact ⟨⟨hC.1.set8 (by omega), lies_ne hC.2.1 (by omega), lies_ne hC.2.2.1 (by omega), lies_ne hC.2.2.2 (by omega)⟩, onlyAt_set8 _ _ _ _ _ _ _ _ _ _⟩
      exact hSt0
    · intro W hC
      refine gFi 45 rfl ?_
      rintro _ rfl
      refine gFi 46 rfl ?_
      rintro _ rfl
      refine gFi 47 rfl ?_
      rintro _ rfl
      refine gFi 48 rfl ?_
      rintro _ rfl
      refine gFi 49 rfl ?_
      rintro _ rfl
      refine gFi 50 rfl ?_
      rintro u50 b50
      refine gFi 51 rfl ?_
      rintro _ rfl
      refine gFi 52 rfl ?_
      rintro _ rfl
      refine gFiN rfl ?_
      refine gFi0 ?_
      simp only [List.drop_succ_cons, List.drop_zero, Act.put, List.setIfInBounds_toArray, List.set_cons_succ, List.set_cons_zero]
      have hr := hC.1.lr.1
      have HB := hide hC.1.bel
      clear hC h2
      change ∀ i, i < 8 → W.cell? ⟨w.heap.size + 1 + 1, i, none⟩ = some (.int .u64 (dgl (q + s) i : Nat)) at hr
      go_wp2
      exact bodyPost_ret (v := .tuple #[.agg #[.int .u64 (dgl (q + s) 0 : Nat), .int .u64 (dgl (q + s) 1 : Nat), .int .u64 (dgl (q + s) 2 : Nat), .int .u64 (dgl (q + s) 3 : Nat), .int .u64 (dgl (q + s) 4 : Nat), .int .u64 (dgl (q + s) 5 : Nat), .int .u64 (dgl (q + s) 6 : Nat), .int .u64 (dgl (q + s) 7 : Nat)], .bool rest]) (by simp [results, Try.results49, go_sem, hr]) rfl ⟨rfl, HB.out⟩

set_option maxHeartbeats 4000000 in
theorem prodHigh_high (fa fb : Nat → Nat) (S H q k : Nat) (n : Int) (rs z : Bool) (w : World) (hk5 : 512 < k) (hk6 : (k : Int) ≤ 9223372036854775807)
    (HSHR : Hid (∀ w, Calls Try.prog 19 #[.agg #[.int .u64 (dgl (H) 0 : Nat), .int .u64 (dgl (H) 1 : Nat), .int .u64 (dgl (H) 2 : Nat), .int .u64 (dgl (H) 3 : Nat), .int .u64 (dgl (H) 4 : Nat), .int .u64 (dgl (H) 5 : Nat), .int .u64 (dgl (H) 6 : Nat), .int .u64 (dgl (H) 7 : Nat)], .int .i64 ((k : Int) - 512)] w fun e w' => e = .returned (.tuple #[.agg #[.int .u64 (dgl (q) 0 : Nat), .int .u64 (dgl (q) 1 : Nat), .int .u64 (dgl (q) 2 : Nat), .int .u64 (dgl (q) 3 : Nat), .int .u64 (dgl (q) 4 : Nat), .int .u64 (dgl (q) 5 : Nat), .int .u64 (dgl (q) 6 : Nat), .int .u64 (dgl (q) 7 : Nat)], .bool rs]) ∧ Below w.heap.size w w'))
    (hz0 : ∀ w, (Op.equalIn 10000 24 (.agg #[.int .u64 (dgl (S) 0 : Nat), .int .u64 (dgl (S) 1 : Nat), .int .u64 (dgl (S) 2 : Nat), .int .u64 (dgl (S) 3 : Nat), .int .u64 (dgl (S) 4 : Nat), .int .u64 (dgl (S) 5 : Nat), .int .u64 (dgl (S) 6 : Nat), .int .u64 (dgl (S) 7 : Nat)]) (.agg #[.int .u64 0, .int .u64 0, .int .u64 0, .int .u64 0, .int .u64 0, .int .u64 0, .int .u64 0, .int .u64 0])).run Try.prog w = .ok z w)
    (HK : Hid ((k : Int) = max n 0))
    (HSUM : Hid (∀ w, Calls Try.prog 80 #[.agg #[.int .u64 (fa 0 : Nat), .int .u64 (fa 1 : Nat), .int .u64 (fa 2 : Nat), .int .u64 (fa 3 : Nat), .int .u64 (fa 4 : Nat), .int .u64 (fa 5 : Nat), .int .u64 (fa 6 : Nat), .int .u64 (fa 7 : Nat)], .agg #[.int .u64 (fb 0 : Nat), .int .u64 (fb 1 : Nat), .int .u64 (fb 2 : Nat), .int .u64 (fb 3 : Nat), .int .u64 (fb 4 : Nat), .int .u64 (fb 5 : Nat), .int .u64 (fb 6 : Nat), .int .u64 (fb 7 : Nat)], .func (.func 81) #[] #[]] w fun e w' => e = .returned (.agg #[.int .u64 (dgl (S) 0 : Nat), .int .u64 (dgl (S) 1 : Nat), .int .u64 (dgl (S) 2 : Nat), .int .u64 (dgl (S) 3 : Nat), .int .u64 (dgl (S) 4 : Nat), .int .u64 (dgl (S) 5 : Nat), .int .u64 (dgl (S) 6 : Nat), .int .u64 (dgl (S) 7 : Nat), .int .u64 (dgl (S) 8 : Nat), .int .u64 (dgl (S) 9 : Nat), .int .u64 (dgl (S) 10 : Nat), .int .u64 (dgl (S) 11 : Nat), .int .u64 (dgl (S) 12 : Nat), .int .u64 (dgl (S) 13 : Nat), .int .u64 (dgl (S) 14 : Nat), .int .u64 (dgl (S) 15 : Nat)]) ∧ Below w.heap.size w w'))
    (HHAL : Hid (∀ w, Calls Try.prog 79 #[.agg #[.int .u64 (dgl (S) 0 : Nat), .int .u64 (dgl (S) 1 : Nat), .int .u64 (dgl (S) 2 : Nat), .int .u64 (dgl (S) 3 : Nat), .int .u64 (dgl (S) 4 : Nat), .int .u64 (dgl (S) 5 : Nat), .int .u64 (dgl (S) 6 : Nat), .int .u64 (dgl (S) 7 : Nat), .int .u64 (dgl (S) 8 : Nat), .int .u64 (dgl (S) 9 : Nat), .int .u64 (dgl (S) 10 : Nat), .int .u64 (dgl (S) 11 : Nat), .int .u64 (dgl (S) 12 : Nat), .int .u64 (dgl (S) 13 : Nat), .int .u64 (dgl (S) 14 : Nat), .int .u64 (dgl (S) 15 : Nat)]] w fun e w' => e = .returned (.tuple #[.agg #[.int .u64 (dgl (S) 0 : Nat), .int .u64 (dgl (S) 1 : Nat), .int .u64 (dgl (S) 2 : Nat), .int .u64 (dgl (S) 3 : Nat), .int .u64 (dgl (S) 4 : Nat), .int .u64 (dgl (S) 5 : Nat), .int .u64 (dgl (S) 6 : Nat), .int .u64 (dgl (S) 7 : Nat)], .agg #[.int .u64 (dgl (H) 0 : Nat), .int .u64 (dgl (H) 1 : Nat), .int .u64 (dgl (H) 2 : Nat), .int .u64 (dgl (H) 3 : Nat), .int .u64 (dgl (H) 4 : Nat), .int .u64 (dgl (H) 5 : Nat), .int .u64 (dgl (H) 6 : Nat), .int .u64 (dgl (H) 7 : Nat)]]) ∧ Below w.heap.size w w')) :
    Calls Try.prog 49 #[.agg #[.int .u64 (fa 0 : Nat), .int .u64 (fa 1 : Nat), .int .u64 (fa 2 : Nat), .int .u64 (fa 3 : Nat), .int .u64 (fa 4 : Nat), .int .u64 (fa 5 : Nat), .int .u64 (fa 6 : Nat), .int .u64 (fa 7 : Nat)], .agg #[.int .u64 (fb 0 : Nat), .int .u64 (fb 1 : Nat), .int .u64 (fb 2 : Nat), .int .u64 (fb 3 : Nat), .int .u64 (fb 4 : Nat), .int .u64 (fb 5 : Nat), .int .u64 (fb 6 : Nat), .int .u64 (fb 7 : Nat)], .int .i64 n] w fun e w' => e = .returned (.tuple #[.agg #[.int .u64 (dgl (q) 0 : Nat), .int .u64 (dgl (q) 1 : Nat), .int .u64 (dgl (q) 2 : Nat), .int .u64 (dgl (q) 3 : Nat), .int .u64 (dgl (q) 4 : Nat), .int .u64 (dgl (q) 5 : Nat), .int .u64 (dgl (q) 6 : Nat), .int .u64 (dgl (q) 7 : Nat)], .bool (rs || !z)]) ∧ Below w.heap.size w w' := by
  have HS0 : Hid (ResSt w (w.heap.size + 1 + 1) (fun _ => 0) (((w.alloc (.cells #[.int .u64 (fa 0 : Nat), .int .u64 (fa 1 : Nat), .int .u64 (fa 2 : Nat), .int .u64 (fa 3 : Nat), .int .u64 (fa 4 : Nat), .int .u64 (fa 5 : Nat), .int .u64 (fa 6 : Nat), .int .u64 (fa 7 : Nat)] 24)).alloc (.cells #[.int .u64 (fb 0 : Nat), .int .u64 (fb 1 : Nat), .int .u64 (fb 2 : Nat), .int .u64 (fb 3 : Nat), .int .u64 (fb 4 : Nat), .int .u64 (fb 5 : Nat), .int .u64 (fb 6 : Nat), .int .u64 (fb 7 : Nat)] 24)).alloc (.cells #[.int .u64 0, .int .u64 0, .int .u64 0, .int .u64 0, .int .u64 0, .int .u64 0, .int .u64 0, .int .u64 0] 24))) := by
    have h2 := liesF_new ((w.alloc (.cells #[.int .u64 (fa 0 : Nat), .int .u64 (fa 1 : Nat), .int .u64 (fa 2 : Nat), .int .u64 (fa 3 : Nat), .int .u64 (fa 4 : Nat), .int .u64 (fa 5 : Nat), .int .u64 (fa 6 : Nat), .int .u64 (fa 7 : Nat)] 24)).alloc (.cells #[.int .u64 (fb 0 : Nat), .int .u64 (fb 1 : Nat), .int .u64 (fb 2 : Nat), .int .u64 (fb 3 : Nat), .int .u64 (fb 4 : Nat), .int .u64 (fb 5 : Nat), .int .u64 (fb 6 : Nat), .int .u64 (fb 7 : Nat)] 24)) (fun _ => 0) 24
    simp only [World.size_alloc] at h2
    exact ⟨h2, fun i => by simp [go_sem], below_trans (below_trans (below_allocs _ _) (below_allocs _ _)) (below_allocs _ _)⟩
  go_enter Try.func49, Try.ntmps49
  go_wp2_with fail
  refine (HSUM.out _).mono ?_
  rintro e w1 ⟨rfl, hb1⟩
  have HS1 := hide (HS0.out.below hb1)
  clear HS0 hb1
  go_wp2_with fail
  refine (HHAL.out _).mono ?_
  rintro e w2 ⟨rfl, hb2⟩
  have HS2 := hide (HS1.out.below hb2)
  clear HS1 hb2
  go_upto_region 2 with fail
  refine wp_gen (fun W => ResSt w (w.heap.size + 1 + 1) (fun _ => 0) W ∧ LiesF W w2.heap.size (dgl S) ∧ LiesF W (w2.heap.size + 1) (dgl H)) ?_ ?_
  · have h3 := liesF_new (w2.alloc (.cells #[.int .u64 (dgl (S) 0 : Nat), .int .u64 (dgl (S) 1 : Nat), .int .u64 (dgl (S) 2 : Nat), .int .u64 (dgl (S) 3 : Nat), .int .u64 (dgl (S) 4 : Nat), .int .u64 (dgl (S) 5 : Nat), .int .u64 (dgl (S) 6 : Nat), .int .u64 (dgl (S) 7 : Nat)] 24)) (dgl H) 24
    rw [World.size_alloc] at h3
    exact ⟨(HS2.out.below (below_allocs _ _)).below (below_allocs _ _), (liesF_new w2 (dgl S) 24).alloc _, h3⟩
  rintro W2 h2
  have hp8 : w.heap.size + 1 + 1 < w2.heap.size := HS2.out.lr.2
  generalize hp : w2.heap.size = p8 at *
  obtain ⟨p9, hp9⟩ : ∃ p9, p8 + 1 = p9 := ⟨_, rfl⟩
  rw [hp9] at h2 ⊢
  clear HS2 hp
  go_cut [2] (fun x wx => x = .int .i64 (k : Nat) ∧ wx = W2)
  case first =>
    go_wp2
    all_goals
      go_meet
      exact ⟨by rw [HK.out]; first | done | (congr 1; omega), rfl⟩
  case rest =>
    obtain ⟨rfl, rfl⟩ := hcut
    have HS3 := hide h2
    have hk7 : (512 : Int) < (k : Int) := by omega
    have hch := h2.2.2.1
    clear h2
    go_wp2_with fail
    refine (HSHR.out _).mono ?_
    rintro e w3 ⟨rfl, hb3⟩
    have HS4 := hide (show ResSt w (w.heap.size + 1 + 1) (fun _ => 0) w3 ∧ LiesF w3 p8 (dgl S) ∧ LiesF w3 p9 (dgl H) from ⟨HS3.out.1.below hb3, HS3.out.2.1.below hb3, HS3.out.2.2.below hb3⟩)
    clear HS3 hb3 hch
    go_upto_region 5 with fail
    refine wp_gen (fun W => ResSt w (w.heap.size + 1 + 1) (fun _ => 0) W ∧ LiesF W p8 (dgl S) ∧ LiesF W p9 (dgl H) ∧ LiesF W w3.heap.size (dgl q)) ⟨HS4.out.1.below (below_allocs _ _), HS4.out.2.1.alloc _, HS4.out.2.2.alloc _, liesF_new _ _ _⟩ ?_
    rintro W4 h2
    have hp12 : p8 < w3.heap.size := HS4.out.2.1.2
    generalize w3.heap.size = p12 at *
    clear HS4
    cases rs
    · skip
      refine wp_region_store 8 [7] [(32, .agg #[.int .u64 (dgl (q) 0 : Nat), .int .u64 (dgl (q) 1 : Nat), .int .u64 (dgl (q) 2 : Nat), .int .u64 (dgl (q) 3 : Nat), .int .u64 (dgl (q) 4 : Nat), .int .u64 (dgl (q) 5 : Nat), .int .u64 (dgl (q) 6 : Nat), .int .u64 (dgl (q) 7 : Nat)]), (33, .bool false), (34, .bool false), (35, .agg #[.int .u64 (dgl (S) 0 : Nat), .int .u64 (dgl (S) 1 : Nat), .int .u64 (dgl (S) 2 : Nat), .int .u64 (dgl (S) 3 : Nat), .int .u64 (dgl (S) 4 : Nat), .int .u64 (dgl (S) 5 : Nat), .int .u64 (dgl (S) 6 : Nat), .int .u64 (dgl (S) 7 : Nat)]), (36, .agg #[.int .u64 0, .int .u64 0, .int .u64 0, .int .u64 0, .int .u64 0, .int .u64 0, .int .u64 0, .int .u64 0]), (37, .bool (!z)), (38, .bool (!z))]
        (fun bs W => ResSt w (w.heap.size + 1 + 1) (bif bs.headD false then dgl q else fun _ => 0) W ∧ LiesF W p8 (dgl S) ∧ LiesF W p9 (dgl H) ∧ LiesF W p12 (dgl q)) mixedOk (by kernel_rfl) (by kernel_rfl) (by kernel_rfl) (⟨h2.1.below (Below.refl _ _).drew, h2.2.1, h2.2.2.1, h2.2.2.2⟩) (fun bs W W' h hb => ⟨h.1.below hb, h.2.1.below hb, h.2.2.1.below hb, h.2.2.2.below hb⟩) ?_ ?_
      · refine sSt rfl (fun bs => gStep_run rfl ?_) ?_
        · intro ρ W hC hc hf hL
          have e10 : ρ (.tmp 10) = .pointer (some ⟨p12, 0, none⟩) := hL 10 (by decide +kernel)
          have hl := hC.2.2.2.1
          simp [go_sem, hc, hf, e10, hl]
          exact ⟨Below.refl _ _, rfl⟩
        refine sSt rfl (fun bs => gStep_run rfl (gRun_move 11 33 (.inl rfl) rfl (by decide +kernel) (fun v w h => h))) ?_
        refine sSt rfl (fun bs => gStep_run rfl (gRun_move 33 34 (.inl rfl) rfl (by decide +kernel) (fun v w h => h))) ?_
        refine sSt rfl (fun bs => gStep_on 2 34 false rfl rfl (by decide +kernel) (fun v w h => h) ?_) ?_
        · intro ρ W hC hc hf hL
          have e8 : ρ (.tmp 8) = .pointer (some ⟨p8, 0, none⟩) := hL 8 (by decide +kernel)
          have hl := hC.2.1.1
          simp [go_sem, hc, hf, e8, hl]
          exact ⟨Below.refl _ _, rfl⟩
        refine sSt rfl (fun bs => gStep_on 2 34 false rfl rfl (by decide +kernel) (fun v w h => h) ?_) ?_
        · intro ρ W hC hc hf hL
          simp [go_sem, hc, hf]
          exact ⟨Below.refl _ _, rfl⟩
        refine sSt rfl (fun bs => gStep_on 2 34 false rfl rfl (by decide +kernel) (fun v w h => h) ?_) ?_
        · intro ρ W hC hc hf hL
          have e35 : ρ (.tmp 35) = .agg #[.int .u64 (dgl (S) 0 : Nat), .int .u64 (dgl (S) 1 : Nat), .int .u64 (dgl (S) 2 : Nat), .int .u64 (dgl (S) 3 : Nat), .int .u64 (dgl (S) 4 : Nat), .int .u64 (dgl (S) 5 : Nat), .int .u64 (dgl (S) 6 : Nat), .int .u64 (dgl (S) 7 : Nat)] := hL 35 (by decide +kernel)
          have e36 : ρ (.tmp 36) = .agg #[.int .u64 0, .int .u64 0, .int .u64 0, .int .u64 0, .int .u64 0, .int .u64 0, .int .u64 0, .int .u64 0] := hL 36 (by decide +kernel)
          simp [go_sem, hc, hf, e35, e36, hz0]
          exact ⟨Below.refl _ _, rfl⟩
        refine sSt rfl (fun bs => gStep_run rfl (gRun_pickCF 34 37 38 _ rfl rfl (by decide +kernel) (by decide +kernel) (fun v w h => h) (fun v w h => h))) ?_
        refine sStS rfl ⟨rfl, rfl, ?_⟩ ?_
        · intro φ ρ W hφ hC hc hL
          have e6 : ρ (.tmp 6) = .pointer (some ⟨w.heap.size + 1 + 1, 0, none⟩) := hL 6 (by decide +kernel)
          have e32 : ρ (.tmp 32) = .agg #[.int .u64 (dgl (q) 0 : Nat), .int .u64 (dgl (q) 1 : Nat), .int .u64 (dgl (q) 2 : Nat), .int .u64 (dgl (q) 3 : Nat), .int .u64 (dgl (q) 4 : Nat), .int .u64 (dgl (q) 5 : Nat), .int .u64 (dgl (q) 6 : Nat), .int .u64 (dgl (q) 7 : Nat)] := hL 32 (by decide +kernel)
          simp only [List.map_cons, List.map_nil, List.headD_cons, hφ, cond_false] at hC
          have hz := hC.1.lr.1
          have hzl := hC.1.lr.2
          have hzf := hC.1.fr
          simp [go_sem, hc, e6, e32, hz, hzf, hzl]
          exact ⟨hC.1.set8 (by omega), lies_ne hC.2.1 (by omega), lies_ne hC.2.2.1 (by omega), lies_ne hC.2.2.2 (by omega)⟩
        exact sSt0
      · intro W hC
        refine gFi 32 rfl ?_
        rintro _ rfl
        refine gFi 33 rfl ?_
        rintro _ rfl
        refine gFi 34 rfl ?_
        rintro _ rfl
        refine gFi 35 rfl ?_
        rintro _ rfl
        refine gFi 36 rfl ?_
        rintro _ rfl
        refine gFi 37 rfl ?_
        rintro _ rfl
        refine gFi 38 rfl ?_
        rintro _ rfl
        refine gFiN rfl ?_
        refine gFi0 ?_
        simp only [List.drop_succ_cons, List.drop_zero, Act.put, List.setIfInBounds_toArray, List.set_cons_succ, List.set_cons_zero]
        have hr := hC.1.lr.1
        have HB := hide hC.1.bel
        clear hC h2
        change ∀ i, i < 8 → W.cell? ⟨w.heap.size + 1 + 1, i, none⟩ = some (.int .u64 (dgl q i : Nat)) at hr
        go_wp2
        exact bodyPost_ret (v := .tuple #[.agg #[.int .u64 (dgl (q) 0 : Nat), .int .u64 (dgl (q) 1 : Nat), .int .u64 (dgl (q) 2 : Nat), .int .u64 (dgl (q) 3 : Nat), .int .u64 (dgl (q) 4 : Nat), .int .u64 (dgl (q) 5 : Nat), .int .u64 (dgl (q) 6 : Nat), .int .u64 (dgl (q) 7 : Nat)], .bool (!z)]) (by simp [results, Try.results49, go_sem, hr]) rfl ⟨rfl, HB.out⟩
    · skip
      refine wp_region_store 8 [7] [(32, .agg #[.int .u64 (dgl (q) 0 : Nat), .int .u64 (dgl (q) 1 : Nat), .int .u64 (dgl (q) 2 : Nat), .int .u64 (dgl (q) 3 : Nat), .int .u64 (dgl (q) 4 : Nat), .int .u64 (dgl (q) 5 : Nat), .int .u64 (dgl (q) 6 : Nat), .int .u64 (dgl (q) 7 : Nat)]), (33, .bool true), (34, .bool true), (35, undef), (36, undef), (37, undef), (38, .bool true)]
        (fun bs W => ResSt w (w.heap.size + 1 + 1) (bif bs.headD false then dgl q else fun _ => 0) W ∧ LiesF W p8 (dgl S) ∧ LiesF W p9 (dgl H) ∧ LiesF W p12 (dgl q)) mixedOk (by kernel_rfl) (by kernel_rfl) (by kernel_rfl) (⟨h2.1.below (Below.refl _ _).drew, h2.2.1, h2.2.2.1, h2.2.2.2⟩) (fun bs W W' h hb => ⟨h.1.below hb, h.2.1.below hb, h.2.2.1.below hb, h.2.2.2.below hb⟩) ?_ ?_
      · refine sSt rfl (fun bs => gStep_run rfl ?_) ?_
        · intro ρ W hC hc hf hL
          have e10 : ρ (.tmp 10) = .pointer (some ⟨p12, 0, none⟩) := hL 10 (by decide +kernel)
          have hl := hC.2.2.2.1
          simp [go_sem, hc, hf, e10, hl]
          exact ⟨Below.refl _ _, rfl⟩
        refine sSt rfl (fun bs => gStep_run rfl (gRun_move 11 33 (.inl rfl) rfl (by decide +kernel) (fun v w h => h))) ?_
        refine sSt rfl (fun bs => gStep_run rfl (gRun_move 33 34 (.inl rfl) rfl (by decide +kernel) (fun v w h => h))) ?_
        refine sSt rfl (fun bs => gStep_off 2 34 false rfl rfl (by decide +kernel) (fun v w h => h) (fun w => rfl)) ?_
        refine sSt rfl (fun bs => gStep_off 2 34 false rfl rfl (by decide +kernel) (fun v w h => h) (fun w => rfl)) ?_
        refine sSt rfl (fun bs => gStep_off 2 34 false rfl rfl (by decide +kernel) (fun v w h => h) (fun w => rfl)) ?_
        refine sSt rfl (fun bs => gStep_run rfl (gRun_pickCT 34 38 _ _ rfl rfl (by decide +kernel) (fun v w h => h) (fun w => rfl))) ?_
        refine sStS rfl ⟨rfl, rfl, ?_⟩ ?_
        · intro φ ρ W hφ hC hc hL
          have e6 : ρ (.tmp 6) = .pointer (some ⟨w.heap.size + 1 + 1, 0, none⟩) := hL 6 (by decide +kernel)
          have e32 : ρ (.tmp 32) = .agg #[.int .u64 (dgl (q) 0 : Nat), .int .u64 (dgl (q) 1 : Nat), .int .u64 (dgl (q) 2 : Nat), .int .u64 (dgl (q) 3 : Nat), .int .u64 (dgl (q) 4 : Nat), .int .u64 (dgl (q) 5 : Nat), .int .u64 (dgl (q) 6 : Nat), .int .u64 (dgl (q) 7 : Nat)] := hL 32 (by decide +kernel)
          simp only [List.map_cons, List.map_nil, List.headD_cons, hφ, cond_false] at hC
          have hz := hC.1.lr.1
          have hzl := hC.1.lr.2
          have hzf := hC.1.fr
          simp [go_sem, hc, e6, e32, hz, hzf, hzl]
          exact ⟨hC.1.set8 (by omega), lies_ne hC.2.1 (by omega), lies_ne hC.2.2.1 (by omega), lies_ne hC.2.2.2 (by omega)⟩
        exact sSt0
      · intro W hC
        refine gFi 32 rfl ?_
        rintro _ rfl
        refine gFi 33 rfl ?_
        rintro _ rfl
        refine gFi 34 rfl ?_
        rintro _ rfl
        refine gFi 35 rfl ?_
        rintro _ rfl
        refine gFi 36 rfl ?_
        rintro _ rfl
        refine gFi 37 rfl ?_
        rintro _ rfl
        refine gFi 38 rfl ?_
        rintro _ rfl
        refine gFiN rfl ?_
        refine gFi0 ?_
        simp only [List.drop_succ_cons, List.drop_zero, Act.put, List.setIfInBounds_toArray, List.set_cons_succ, List.set_cons_zero]
        have hr := hC.1.lr.1
        have HB := hide hC.1.bel
        clear hC h2
        change ∀ i, i < 8 → W.cell? ⟨w.heap.size + 1 + 1, i, none⟩ = some (.int .u64 (dgl q i : Nat)) at hr
        go_wp2
        exact bodyPost_ret (v := .tuple #[.agg #[.int .u64 (dgl (q) 0 : Nat), .int .u64 (dgl (q) 1 : Nat), .int .u64 (dgl (q) 2 : Nat), .int .u64 (dgl (q) 3 : Nat), .int .u64 (dgl (q) 4 : Nat), .int .u64 (dgl (q) 5 : Nat), .int .u64 (dgl (q) 6 : Nat), .int .u64 (dgl (q) 7 : Nat)], .bool true]) (by simp [results, Try.results49, go_sem, hr]) rfl ⟨rfl, HB.out⟩

theorem high_split (P k r q : Nat) (hq : 2 ^ q = QQ) (hr : k + r = q) : P / 2 ^ k = P % QQ / 2 ^ k + P / QQ * 2 ^ r ∧ (P % QQ / 2 ^ k * 2 ^ k = P % QQ ↔ P / 2 ^ k * 2 ^ k = P) := by
  have hS : QQ = 2 ^ k * 2 ^ r := by rw [← Nat.pow_add, hr, hq]
  have hp : 0 < 2 ^ k := Nat.two_pow_pos k
  have e1 : P / 2 ^ k = P % QQ / 2 ^ k + P / QQ * 2 ^ r := by
    have h := Nat.mod_add_div P QQ
    have h2 : P / 2 ^ k = (P % QQ + 2 ^ k * (2 ^ r * (P / QQ))) / 2 ^ k := by
      congr 1
      rw [← Nat.mul_assoc, ← hS]; exact h.symm
    rw [h2, Nat.add_mul_div_left _ _ hp, Nat.mul_comm (P / QQ)]
  refine ⟨e1, ?_⟩
  rw [e1, Nat.add_mul, show P / QQ * 2 ^ r * 2 ^ k = P / QQ * (2 ^ k * 2 ^ r) by ac_rfl, ← hS]
  have h := Nat.mod_add_div P QQ
  have h3 : QQ * (P / QQ) = P / QQ * QQ := Nat.mul_comm _ _
  omega

theorem high_past (P k q m r : Nat) (hq : 2 ^ q = QQ) (hm : k = q + m) (hr : r = min m q) (hP : P / QQ < QQ) :
    P / QQ / 2 ^ r = P / 2 ^ k ∧ (P / QQ / 2 ^ r * 2 ^ r = P / QQ ∧ P % QQ = 0 ↔ P / 2 ^ k * 2 ^ k = P) := by
  have e1 : P / QQ / 2 ^ r = P / QQ / 2 ^ m := div_past (P / QQ) m r q hr hq hP
  have e2 : P / 2 ^ k = P / QQ / 2 ^ m := by rw [hm, Nat.pow_add, hq, Nat.div_div_eq_div_mul]
  have hl := lost_past (P / QQ) m r q hr hq hP
  rw [decide_eq_decide] at hl
  rw [← hl, e1, e2]
  refine ⟨rfl, ?_⟩
  have h := Nat.mod_add_div P QQ
  have h5 : P / QQ / 2 ^ m * 2 ^ k = QQ * (P / QQ / 2 ^ m * 2 ^ m) := by rw [hm, Nat.pow_add, hq]; ac_rfl
  rw [h5]
  constructor
  · rintro ⟨h1, h2⟩
    rw [h1]; omega
  · intro h1
    have h6 : P / QQ / 2 ^ m * 2 ^ m ≤ P / QQ := Nat.div_mul_le_self _ _
    have h7 : QQ * (P / QQ / 2 ^ m * 2 ^ m) ≤ QQ * (P / QQ) := Nat.mul_le_mul_left _ h6
    have h8 : QQ * (P / QQ / 2 ^ m * 2 ^ m) = QQ * (P / QQ) := by omega
    have hq0 : 0 < QQ := pow_pos' q QQ hq
    exact ⟨Nat.eq_of_mul_eq_mul_left hq0 h8, by omega⟩

theorem prodHigh_any (a b k : Nat) (n : Int) (hk : (k : Int) = max n 0) (hn : n ≤ 9223372036854775807) (ha : a < QQ) (hb : b < QQ) (w : World) :
    Calls Try.prog 49 #[.agg #[.int .u64 (dgl (a) 0 : Nat), .int .u64 (dgl (a) 1 : Nat), .int .u64 (dgl (a) 2 : Nat), .int .u64 (dgl (a) 3 : Nat), .int .u64 (dgl (a) 4 : Nat), .int .u64 (dgl (a) 5 : Nat), .int .u64 (dgl (a) 6 : Nat), .int .u64 (dgl (a) 7 : Nat)], .agg #[.int .u64 (dgl (b) 0 : Nat), .int .u64 (dgl (b) 1 : Nat), .int .u64 (dgl (b) 2 : Nat), .int .u64 (dgl (b) 3 : Nat), .int .u64 (dgl (b) 4 : Nat), .int .u64 (dgl (b) 5 : Nat), .int .u64 (dgl (b) 6 : Nat), .int .u64 (dgl (b) 7 : Nat)], .int .i64 n] w fun e w' => e = .returned (.tuple #[.agg #[.int .u64 (dgl (a * b / 2 ^ k) 0 : Nat), .int .u64 (dgl (a * b / 2 ^ k) 1 : Nat), .int .u64 (dgl (a * b / 2 ^ k) 2 : Nat), .int .u64 (dgl (a * b / 2 ^ k) 3 : Nat), .int .u64 (dgl (a * b / 2 ^ k) 4 : Nat), .int .u64 (dgl (a * b / 2 ^ k) 5 : Nat), .int .u64 (dgl (a * b / 2 ^ k) 6 : Nat), .int .u64 (dgl (a * b / 2 ^ k) 7 : Nat)], .bool (!decide (a * b / 2 ^ k * 2 ^ k = a * b))]) ∧ Below w.heap.size w w' := by
  have hq := qq_pow 512 rfl
  have hq0 : 0 < QQ := by omega
  have hP := qq_mul_lt ha hb
  rcases Nat.lt_or_ge 512 k with h5 | h5
  · obtain ⟨r, hr⟩ : ∃ r : Nat, roomI ((k : Int) - 512) = (r : Int) := ⟨(roomI ((k : Int) - 512)).toNat, by have := roomI_bd ((k : Int) - 512); omega⟩
    have hh := high_past (a * b) k 512 (k - 512) r hq (by omega) (by unfold roomI at hr; omega) hP
    have hS := fun w => wideShr_any (a * b / QQ) r ((k : Int) - 512) hr hP w
    have hz0 := fun w => wide_eqz (Nat.mod_lt (a * b) hq0) w
    rw [w8_mod (Nat.mod_mod (a * b) QQ)] at hz0
    have h := prodHigh_high (dgl a) (dgl b) (a * b) (a * b / QQ) (a * b / QQ / 2 ^ r) k n _ _ w h5 (by omega) hS hz0 hk (fun w => summed_all a b ha hb w) (fun w => halves_any (a * b) w)
    have e : (!decide (a * b / QQ / 2 ^ r * 2 ^ r = a * b / QQ) || !decide (a * b % QQ = 0)) = !decide (a * b / 2 ^ k * 2 ^ k = a * b) := by
      rw [← Bool.not_and]
      congr 1
      rw [Bool.eq_iff_iff, Bool.and_eq_true, decide_eq_true_iff, decide_eq_true_iff, decide_eq_true_iff]
      exact hh.2
    rw [e, hh.1] at h
    exact h
  · have hh := high_split (a * b) k (512 - k) 512 hq (by omega)
    have hr1 : roomI (k : Int) = (k : Int) := by unfold roomI; omega
    have hS := fun w => wideShr_any (a * b % QQ) k (k : Int) hr1 (Nat.mod_lt _ hq0) w
    rw [w8_mod (Nat.mod_mod (a * b) QQ)] at hS
    have hL := fun w => wideShl_any (a * b / QQ) (512 - (k : Int)) hP w
    have hr2 : roomI (512 - (k : Int)) = ((512 - k : Nat) : Int) := by unfold roomI; omega
    rw [hr2, sh_up] at hL
    have hs : a * b / QQ * 2 ^ (512 - k) % QQ < QQ := Nat.mod_lt _ hq0
    rw [← w8_mod (Nat.mod_mod (a * b / QQ * 2 ^ (512 - k)) QQ)] at hL
    have hqq : a * b % QQ / 2 ^ k < QQ := Nat.lt_of_le_of_lt (Nat.div_le_self _ _) (Nat.mod_lt _ hq0)
    have hSU := fun v w hv => prodSum_any [a * b % QQ / 2 ^ k, a * b / QQ * 2 ^ (512 - k) % QQ] v w hv (fun i => by
      match i with
      | 0 => exact hqq
      | 1 => exact hs
      | i + 2 => rw [getD_past _ _ (by simp)]; omega)
    have h := prodHigh_low (dgl a) (dgl b) (a * b) (a * b / QQ) (a * b % QQ / 2 ^ k) k n (a * b / QQ * 2 ^ (512 - k) % QQ) _ w h5 hS hL (fun v w hv => by
      have h1 := hSU v w hv
      have e1 : sumN [a * b % QQ / 2 ^ k, a * b / QQ * 2 ^ (512 - k) % QQ] [a * b % QQ / 2 ^ k, a * b / QQ * 2 ^ (512 - k) % QQ].length = a * b % QQ / 2 ^ k + a * b / QQ * 2 ^ (512 - k) % QQ := by simp [sumN, dg]
      rw [e1] at h1
      exact h1) hk (fun w => summed_all a b ha hb w) (fun w => halves_any (a * b) w)
    have e : decide (a * b % QQ / 2 ^ k * 2 ^ k = a * b % QQ) = decide (a * b / 2 ^ k * 2 ^ k = a * b) := by rw [decide_eq_decide]; exact hh.2
    rw [e, w8_mod (show (a * b % QQ / 2 ^ k + a * b / QQ * 2 ^ (512 - k) % QQ) % QQ = (a * b / 2 ^ k) % QQ by rw [hh.1, Nat.add_mod_mod])] at h
    exact h

end Go.Proofs.Ytenbomfoihajhaa

/- Contracts: radicandref03.Mul; radicandlaw03.awake. -/
set_option linter.unusedVariables false
set_option linter.unusedSimpArgs false
set_option maxRecDepth 8000
namespace Go.Proofs.Ytenbomfoihajhaa
open Go.RowKit Plain

structure TwoSt (w : World) (fa fb : Nat → Nat) (W : World) : Prop where
  la : LiesF W w.heap.size fa
  lb : LiesF W (w.heap.size + 1) fb
  bel : Below w.heap.size w W
theorem TwoSt.below {w : World} {fa fb : Nat → Nat} {W W' : World} (h : TwoSt w fa fb W) (hb : Below W.heap.size W W') : TwoSt w fa fb W' :=
  ⟨h.la.below hb, h.lb.below hb, below_trans h.bel hb⟩
theorem TwoSt.start (w : World) (fa fb : Nat → Nat) : TwoSt w fa fb ((w.alloc (.cells #[.int .u64 (fa 0 : Nat), .int .u64 (fa 1 : Nat), .int .u64 (fa 2 : Nat), .int .u64 (fa 3 : Nat), .int .u64 (fa 4 : Nat), .int .u64 (fa 5 : Nat), .int .u64 (fa 6 : Nat), .int .u64 (fa 7 : Nat)] 24)).alloc (.cells #[.int .u64 (fb 0 : Nat), .int .u64 (fb 1 : Nat), .int .u64 (fb 2 : Nat), .int .u64 (fb 3 : Nat), .int .u64 (fb 4 : Nat), .int .u64 (fb 5 : Nat), .int .u64 (fb 6 : Nat), .int .u64 (fb 7 : Nat)] 24)) := by
  have hlb := liesF_new (w.alloc (.cells #[.int .u64 (fa 0 : Nat), .int .u64 (fa 1 : Nat), .int .u64 (fa 2 : Nat), .int .u64 (fa 3 : Nat), .int .u64 (fa 4 : Nat), .int .u64 (fa 5 : Nat), .int .u64 (fa 6 : Nat), .int .u64 (fa 7 : Nat)] 24)) fb 24
  rw [World.size_alloc] at hlb
  exact ⟨(liesF_new w fa 24).alloc _, hlb, below_trans (below_allocs w _) (below_allocs _ _)⟩

set_option maxHeartbeats 1000000 in
theorem ref3Mul_any (a b : Nat) (ha : a < QQ) (hb : b < QQ) (w : World) :
    Calls Try.prog 44 #[.agg #[.int .u64 (dgl (a) 0 : Nat), .int .u64 (dgl (a) 1 : Nat), .int .u64 (dgl (a) 2 : Nat), .int .u64 (dgl (a) 3 : Nat), .int .u64 (dgl (a) 4 : Nat), .int .u64 (dgl (a) 5 : Nat), .int .u64 (dgl (a) 6 : Nat), .int .u64 (dgl (a) 7 : Nat)], .agg #[.int .u64 (dgl (b) 0 : Nat), .int .u64 (dgl (b) 1 : Nat), .int .u64 (dgl (b) 2 : Nat), .int .u64 (dgl (b) 3 : Nat), .int .u64 (dgl (b) 4 : Nat), .int .u64 (dgl (b) 5 : Nat), .int .u64 (dgl (b) 6 : Nat), .int .u64 (dgl (b) 7 : Nat)]] w fun e w' => ∃ v, e = .returned v ∧ BigV w' v (a * b) 80 ∧ Below w.heap.size w w' := by
  have HA := hide (fun w => refBig_any a ha w)
  have HB := hide (fun w => refBig_any b hb w)
  have HST := hide (TwoSt.start w (dgl a) (dgl b))
  clear ha hb
  go_enter Try.func44, Try.ntmps44
  go_upto_region 1 with fail
  refine wp_gen (fun W => TwoSt w (dgl a) (dgl b) W) HST.out ?_
  rintro W1 h1
  clear HST
  refine wp_region_grow 6 [(5, .val (.agg #[.int .u64 (dgl (a) 0 : Nat), .int .u64 (dgl (a) 1 : Nat), .int .u64 (dgl (a) 2 : Nat), .int .u64 (dgl (a) 3 : Nat), .int .u64 (dgl (a) 4 : Nat), .int .u64 (dgl (a) 5 : Nat), .int .u64 (dgl (a) 6 : Nat), .int .u64 (dgl (a) 7 : Nat)])), (6, .big a 40), (7, .val (.agg #[.int .u64 (dgl (b) 0 : Nat), .int .u64 (dgl (b) 1 : Nat), .int .u64 (dgl (b) 2 : Nat), .int .u64 (dgl (b) 3 : Nat), .int .u64 (dgl (b) 4 : Nat), .int .u64 (dgl (b) 5 : Nat), .int .u64 (dgl (b) 6 : Nat), .int .u64 (dgl (b) 7 : Nat)])), (8, .big b 40), (9, .big (a * b) 80), (4, .big (a * b) 80)]
    (fun W => TwoSt w (dgl a) (dgl b) W) mixedOk (by kernel_rfl) (by kernel_rfl) (h1.below (Below.refl _ _).drew) (fun W W' h hb => h.below hb) ?_ ?_
  · refine gSt (gStep_run rfl ?_) ?_
    · intro ρ W hC hc hf hL
      have e2 : ρ (.tmp 2) = .pointer (some ⟨w.heap.size, 0, none⟩) := hL 2 (by decide +kernel)
      have hl := hC.la.1
      simp [go_sem, hc, hf, e2, hl]
      exact ⟨Below.refl _ _, rfl⟩
    refine gSt (gStep_run rfl ?_) ?_
    · intro ρ W hC hc hf hL
      have e5 : ρ (.tmp 5) = .agg #[.int .u64 (dgl (a) 0 : Nat), .int .u64 (dgl (a) 1 : Nat), .int .u64 (dgl (a) 2 : Nat), .int .u64 (dgl (a) 3 : Nat), .int .u64 (dgl (a) 4 : Nat), .int .u64 (dgl (a) 5 : Nat), .int .u64 (dgl (a) 6 : Nat), .int .u64 (dgl (a) 7 : Nat)] := hL 5 (by decide +kernel)
      simp [go_sem, hc, hf, e5]
      refine (HA.out _).mono ?_
      rintro e w' ⟨v, rfl, hv, hb⟩
      exact ⟨_, rfl, hb, hv⟩
    refine gSt (gStep_run rfl ?_) ?_
    · intro ρ W hC hc hf hL
      have e3 : ρ (.tmp 3) = .pointer (some ⟨w.heap.size + 1, 0, none⟩) := hL 3 (by decide +kernel)
      have hl := hC.lb.1
      simp [go_sem, hc, hf, e3, hl]
      exact ⟨Below.refl _ _, rfl⟩
    refine gSt (gStep_run rfl ?_) ?_
    · intro ρ W hC hc hf hL
      have e7 : ρ (.tmp 7) = .agg #[.int .u64 (dgl (b) 0 : Nat), .int .u64 (dgl (b) 1 : Nat), .int .u64 (dgl (b) 2 : Nat), .int .u64 (dgl (b) 3 : Nat), .int .u64 (dgl (b) 4 : Nat), .int .u64 (dgl (b) 5 : Nat), .int .u64 (dgl (b) 6 : Nat), .int .u64 (dgl (b) 7 : Nat)] := hL 7 (by decide +kernel)
      simp [go_sem, hc, hf, e7]
      refine (HB.out _).mono ?_
      rintro e w' ⟨v, rfl, hv, hb⟩
      exact ⟨_, rfl, hb, hv⟩
    refine gSt (gStep_run rfl ?_) ?_
    · intro ρ W hC hc hf hL
      have b6 : BigV W (ρ (.tmp 6)) (a) (40) := hL 6 (by decide +kernel)
      have b8 : BigV W (ρ (.tmp 8)) (b) (40) := hL 8 (by decide +kernel)
      simp [go_sem, hc, hf]
      refine (refMul_any a b 40 40 _ _ _ b6 b8 (by omega) (by omega)).mono ?_
      rintro e w' ⟨v, rfl, hv, hb⟩
      exact ⟨_, rfl, hb, hv⟩
    refine gSt (gStep_run rfl (gRun_move 9 4 (.inr rfl) rfl (by decide +kernel) (fun v w h => h))) ?_
    exact gSt0
  · intro W hC
    refine gFi 5 rfl ?_
    rintro _ rfl
    refine gFi 6 rfl ?_
    rintro u6 b6
    refine gFi 7 rfl ?_
    rintro _ rfl
    refine gFi 8 rfl ?_
    rintro u8 b8
    refine gFi 9 rfl ?_
    rintro u9 b9
    refine gFi 4 rfl ?_
    rintro u4 b4
    refine gFi0 ?_
    simp only [List.drop_succ_cons, List.drop_zero, Act.put, List.setIfInBounds_toArray, List.set_cons_succ, List.set_cons_zero]
    have HB0 := hide hC.bel
    clear hC h1 b6 b8 b9
    go_wp2
    go_ret
    exact ⟨_, rfl, b4, HB0.out⟩

theorem power_lt (n q : Nat) (hq : 2 ^ q = QQ) (h : n < q) (x : Int) (hx : x = (n : Int)) (hq5 : q = 512) (w : World) :
    Calls Try.prog 36 #[.int .i64 x] w fun e w' => e = .returned (.agg #[.int .u64 (dgl (2 ^ n) 0 : Nat), .int .u64 (dgl (2 ^ n) 1 : Nat), .int .u64 (dgl (2 ^ n) 2 : Nat), .int .u64 (dgl (2 ^ n) 3 : Nat), .int .u64 (dgl (2 ^ n) 4 : Nat), .int .u64 (dgl (2 ^ n) 5 : Nat), .int .u64 (dgl (2 ^ n) 6 : Nat), .int .u64 (dgl (2 ^ n) 7 : Nat)]) ∧ Below w.heap.size w w' := by
  subst hx
  have h1 := widePower_any (n : Int) (by omega) w
  have e1 : roomI (n : Int) = (n : Int) := by unfold roomI; omega
  rw [e1, sh_up, Nat.one_mul] at h1
  exact h1

set_option maxHeartbeats 2000000 in
theorem awake3_walk (X Y : Nat) (w : World)
    (HP : Hid (∀ w, Calls Try.prog 36 #[.int .i64 256] w fun e w' => e = .returned (.agg #[.int .u64 (dgl (X) 0 : Nat), .int .u64 (dgl (X) 1 : Nat), .int .u64 (dgl (X) 2 : Nat), .int .u64 (dgl (X) 3 : Nat), .int .u64 (dgl (X) 4 : Nat), .int .u64 (dgl (X) 5 : Nat), .int .u64 (dgl (X) 6 : Nat), .int .u64 (dgl (X) 7 : Nat)]) ∧ Below w.heap.size w w'))
    (HY : Hid (∀ w, Calls Try.prog 36 #[.int .i64 212] w fun e w' => e = .returned (.agg #[.int .u64 (dgl (Y) 0 : Nat), .int .u64 (dgl (Y) 1 : Nat), .int .u64 (dgl (Y) 2 : Nat), .int .u64 (dgl (Y) 3 : Nat), .int .u64 (dgl (Y) 4 : Nat), .int .u64 (dgl (Y) 5 : Nat), .int .u64 (dgl (Y) 6 : Nat), .int .u64 (dgl (Y) 7 : Nat)]) ∧ Below w.heap.size w w'))
    (HM : Hid (∀ w, Calls Try.prog 43 #[.agg #[.int .u64 (dgl (X) 0 : Nat), .int .u64 (dgl (X) 1 : Nat), .int .u64 (dgl (X) 2 : Nat), .int .u64 (dgl (X) 3 : Nat), .int .u64 (dgl (X) 4 : Nat), .int .u64 (dgl (X) 5 : Nat), .int .u64 (dgl (X) 6 : Nat), .int .u64 (dgl (X) 7 : Nat)], .agg #[.int .u64 (dgl (X) 0 : Nat), .int .u64 (dgl (X) 1 : Nat), .int .u64 (dgl (X) 2 : Nat), .int .u64 (dgl (X) 3 : Nat), .int .u64 (dgl (X) 4 : Nat), .int .u64 (dgl (X) 5 : Nat), .int .u64 (dgl (X) 6 : Nat), .int .u64 (dgl (X) 7 : Nat)]] w fun e w' => e = .returned (.tuple #[.agg #[.int .u64 (dgl (QQ) 0 : Nat), .int .u64 (dgl (QQ) 1 : Nat), .int .u64 (dgl (QQ) 2 : Nat), .int .u64 (dgl (QQ) 3 : Nat), .int .u64 (dgl (QQ) 4 : Nat), .int .u64 (dgl (QQ) 5 : Nat), .int .u64 (dgl (QQ) 6 : Nat), .int .u64 (dgl (QQ) 7 : Nat)], .bool false]) ∧ Below w.heap.size w w'))
    (HH : Hid (∀ w, Calls Try.prog 49 #[.agg #[.int .u64 (dgl (X) 0 : Nat), .int .u64 (dgl (X) 1 : Nat), .int .u64 (dgl (X) 2 : Nat), .int .u64 (dgl (X) 3 : Nat), .int .u64 (dgl (X) 4 : Nat), .int .u64 (dgl (X) 5 : Nat), .int .u64 (dgl (X) 6 : Nat), .int .u64 (dgl (X) 7 : Nat)], .agg #[.int .u64 (dgl (X) 0 : Nat), .int .u64 (dgl (X) 1 : Nat), .int .u64 (dgl (X) 2 : Nat), .int .u64 (dgl (X) 3 : Nat), .int .u64 (dgl (X) 4 : Nat), .int .u64 (dgl (X) 5 : Nat), .int .u64 (dgl (X) 6 : Nat), .int .u64 (dgl (X) 7 : Nat)], .int .i64 300] w fun e w' => e = .returned (.tuple #[.agg #[.int .u64 (dgl (Y) 0 : Nat), .int .u64 (dgl (Y) 1 : Nat), .int .u64 (dgl (Y) 2 : Nat), .int .u64 (dgl (Y) 3 : Nat), .int .u64 (dgl (Y) 4 : Nat), .int .u64 (dgl (Y) 5 : Nat), .int .u64 (dgl (Y) 6 : Nat), .int .u64 (dgl (Y) 7 : Nat)], .bool false]) ∧ Below w.heap.size w w'))
    (hqz : ∀ w, (Op.equalIn 10000 24 (.agg #[.int .u64 (dgl (QQ) 0 : Nat), .int .u64 (dgl (QQ) 1 : Nat), .int .u64 (dgl (QQ) 2 : Nat), .int .u64 (dgl (QQ) 3 : Nat), .int .u64 (dgl (QQ) 4 : Nat), .int .u64 (dgl (QQ) 5 : Nat), .int .u64 (dgl (QQ) 6 : Nat), .int .u64 (dgl (QQ) 7 : Nat)]) (.agg #[.int .u64 0, .int .u64 0, .int .u64 0, .int .u64 0, .int .u64 0, .int .u64 0, .int .u64 0, .int .u64 0])).run Try.prog w = .ok true w) :
    Calls Try.prog 48 #[] w fun e w' => e = .returned (.bool true) ∧ Below w.heap.size w w' := by
  have HBL := hide (Below.refl w.heap.size w)
  go_enter Try.func48, Try.ntmps48
  go_wp2_with fail
  refine (HP.out _).mono ?_
  rintro e w1 ⟨rfl, hb1⟩
  replace HBL := hide (below_trans HBL.out hb1)
  clear hb1
  go_wp2_with fail
  refine (HP.out _).mono ?_
  rintro e w2 ⟨rfl, hb2⟩
  replace HBL := hide (below_trans HBL.out hb2)
  clear hb2
  go_wp2_with fail
  refine (HM.out _).mono ?_
  rintro e w3 ⟨rfl, hb3⟩
  replace HBL := hide (below_trans HBL.out hb3)
  clear hb3
  go_upto_region 2 with fail
  refine wp_gen (fun W => Below w.heap.size w W ∧ LiesF W w3.heap.size (dgl QQ)) ⟨below_trans HBL.out (below_allocs _ _), liesF_new _ _ _⟩ ?_
  rintro W3 ⟨gHBL, gH1⟩
  generalize w3.heap.size = p1 at *
  replace HBL := hide gHBL
  have H1 := hide gH1
  clear gHBL gH1
  go_wp2_with fail
  refine (HP.out _).mono ?_
  rintro e w4 ⟨rfl, hb4⟩
  replace HBL := hide (below_trans HBL.out hb4)
  replace H1 := hide (H1.out.below hb4)
  clear hb4
  go_wp2_with fail
  refine (HP.out _).mono ?_
  rintro e w5 ⟨rfl, hb5⟩
  replace HBL := hide (below_trans HBL.out hb5)
  replace H1 := hide (H1.out.below hb5)
  clear hb5
  go_wp2_with fail
  refine (HH.out _).mono ?_
  rintro e w6 ⟨rfl, hb6⟩
  replace HBL := hide (below_trans HBL.out hb6)
  replace H1 := hide (H1.out.below hb6)
  clear hb6
  go_upto_region 3 with fail
  refine wp_gen (fun W => Below w.heap.size w W ∧ LiesF W (p1) (dgl QQ) ∧ LiesF W w6.heap.size (dgl Y)) ⟨below_trans HBL.out (below_allocs _ _), H1.out.below (below_allocs _ _), liesF_new _ _ _⟩ ?_
  rintro W6 ⟨gHBL, gH1, gH3⟩
  generalize w6.heap.size = p3 at *
  replace HBL := hide gHBL
  replace H1 := hide gH1
  have H3 := hide gH3
  clear gHBL gH1 gH3
  refine wp_region_grow 17 [(17, .val (.agg #[.int .u64 (dgl (QQ) 0 : Nat), .int .u64 (dgl (QQ) 1 : Nat), .int .u64 (dgl (QQ) 2 : Nat), .int .u64 (dgl (QQ) 3 : Nat), .int .u64 (dgl (QQ) 4 : Nat), .int .u64 (dgl (QQ) 5 : Nat), .int .u64 (dgl (QQ) 6 : Nat), .int .u64 (dgl (QQ) 7 : Nat)])), (18, .val (.agg #[.int .u64 0, .int .u64 0, .int .u64 0, .int .u64 0, .int .u64 0, .int .u64 0, .int .u64 0, .int .u64 0])), (19, .val (.bool true)), (20, .val (.bool true)), (21, .val (.bool false)), (22, .val (.bool true)), (23, .val (.bool true)), (24, .val (.bool true)), (25, .val (.agg #[.int .u64 (dgl (Y) 0 : Nat), .int .u64 (dgl (Y) 1 : Nat), .int .u64 (dgl (Y) 2 : Nat), .int .u64 (dgl (Y) 3 : Nat), .int .u64 (dgl (Y) 4 : Nat), .int .u64 (dgl (Y) 5 : Nat), .int .u64 (dgl (Y) 6 : Nat), .int .u64 (dgl (Y) 7 : Nat)])), (26, .val (.agg #[.int .u64 (dgl (Y) 0 : Nat), .int .u64 (dgl (Y) 1 : Nat), .int .u64 (dgl (Y) 2 : Nat), .int .u64 (dgl (Y) 3 : Nat), .int .u64 (dgl (Y) 4 : Nat), .int .u64 (dgl (Y) 5 : Nat), .int .u64 (dgl (Y) 6 : Nat), .int .u64 (dgl (Y) 7 : Nat)])), (27, .val (.bool true)), (28, .val (.bool true)), (29, .val (.bool true)), (30, .val (.bool false)), (31, .val (.bool true)), (32, .val (.bool true)), (0, .val (.bool true))]
    (fun W => Below w.heap.size w W ∧ LiesF W p1 (dgl QQ) ∧ LiesF W p3 (dgl Y)) mixedOk (by kernel_rfl) (by kernel_rfl) (⟨HBL.out.drew, H1.out, H3.out⟩) (fun W W' h hb => ⟨below_trans h.1 hb, h.2.1.below hb, h.2.2.below hb⟩) ?_ ?_
  · refine gSt (gStep_run rfl ?_) ?_
    · intro ρ W hC hc hf hL
      have e1 : ρ (.tmp 1) = .pointer (some ⟨p1, 0, none⟩) := hL 1 (by decide +kernel)
      have hl := hC.2.1.1
      simp [go_sem, hc, hf, e1, hl]
      exact ⟨Below.refl _ _, rfl⟩
    refine gSt (gStep_run rfl ?_) ?_
    · intro ρ W hC hc hf hL
      simp [go_sem, hc, hf]
      exact ⟨Below.refl _ _, rfl⟩
    refine gSt (gStep_run rfl ?_) ?_
    · intro ρ W hC hc hf hL
      have e17 : ρ (.tmp 17) = .agg #[.int .u64 (dgl (QQ) 0 : Nat), .int .u64 (dgl (QQ) 1 : Nat), .int .u64 (dgl (QQ) 2 : Nat), .int .u64 (dgl (QQ) 3 : Nat), .int .u64 (dgl (QQ) 4 : Nat), .int .u64 (dgl (QQ) 5 : Nat), .int .u64 (dgl (QQ) 6 : Nat), .int .u64 (dgl (QQ) 7 : Nat)] := hL 17 (by decide +kernel)
      have e18 : ρ (.tmp 18) = .agg #[.int .u64 0, .int .u64 0, .int .u64 0, .int .u64 0, .int .u64 0, .int .u64 0, .int .u64 0, .int .u64 0] := hL 18 (by decide +kernel)
      simp [go_sem, hc, hf, e17, e18, hqz]
      exact ⟨Below.refl _ _, rfl⟩
    refine gSt (gStep_run rfl (gRun_move 19 20 (.inl rfl) rfl (by decide +kernel) (fun v w h => h))) ?_
    refine gSt (gStep_on 3 20 true rfl rfl (by decide +kernel) (fun v w h => h) (gRun_move 2 21 (.inl rfl) rfl (by decide +kernel) (fun v w h => h))) ?_
    refine gSt (gStep_on 3 20 true rfl rfl (by decide +kernel) (fun v w h => h) ?_) ?_
    · intro ρ W hC hc hf hL
      have e21 : ρ (.tmp 21) = .bool false := hL 21 (by decide +kernel)
      simp [go_sem, hc, hf, e21]
      exact ⟨Below.refl _ _, rfl⟩
    refine gSt (gStep_run rfl (gRun_pickT 20 22 23 _ rfl rfl (by decide +kernel) (by decide +kernel) (fun v w h => h) (fun v w h => h))) ?_
    refine gSt (gStep_run rfl (gRun_move 23 24 (.inl rfl) rfl (by decide +kernel) (fun v w h => h))) ?_
    refine gSt (gStep_on 7 24 true rfl rfl (by decide +kernel) (fun v w h => h) ?_) ?_
    · intro ρ W hC hc hf hL
      have e3 : ρ (.tmp 3) = .pointer (some ⟨p3, 0, none⟩) := hL 3 (by decide +kernel)
      have hl := hC.2.2.1
      simp [go_sem, hc, hf, e3, hl]
      exact ⟨Below.refl _ _, rfl⟩
    refine gSt (gStep_on 7 24 true rfl rfl (by decide +kernel) (fun v w h => h) ?_) ?_
    · intro ρ W hC hc hf hL
      simp [go_sem, hc, hf]
      refine (HY.out _).mono ?_
      rintro e w' ⟨rfl, hb⟩
      exact ⟨_, rfl, by first | exact hb | (subst hb; exact Below.refl _ _), rfl⟩
    refine gSt (gStep_on 7 24 true rfl rfl (by decide +kernel) (fun v w h => h) ?_) ?_
    · intro ρ W hC hc hf hL
      have e25 : ρ (.tmp 25) = .agg #[.int .u64 (dgl (Y) 0 : Nat), .int .u64 (dgl (Y) 1 : Nat), .int .u64 (dgl (Y) 2 : Nat), .int .u64 (dgl (Y) 3 : Nat), .int .u64 (dgl (Y) 4 : Nat), .int .u64 (dgl (Y) 5 : Nat), .int .u64 (dgl (Y) 6 : Nat), .int .u64 (dgl (Y) 7 : Nat)] := hL 25 (by decide +kernel)
      have e26 : ρ (.tmp 26) = .agg #[.int .u64 (dgl (Y) 0 : Nat), .int .u64 (dgl (Y) 1 : Nat), .int .u64 (dgl (Y) 2 : Nat), .int .u64 (dgl (Y) 3 : Nat), .int .u64 (dgl (Y) 4 : Nat), .int .u64 (dgl (Y) 5 : Nat), .int .u64 (dgl (Y) 6 : Nat), .int .u64 (dgl (Y) 7 : Nat)] := hL 26 (by decide +kernel)
      simp [go_sem, hc, hf, e25, e26, wide_sameF]
      exact ⟨Below.refl _ _, rfl⟩
    refine gSt (gStep_run rfl (gRun_pickT 24 27 28 _ rfl rfl (by decide +kernel) (by decide +kernel) (fun v w h => h) (fun v w h => h))) ?_
    refine gSt (gStep_run rfl (gRun_move 28 29 (.inl rfl) rfl (by decide +kernel) (fun v w h => h))) ?_
    refine gSt (gStep_on 12 29 true rfl rfl (by decide +kernel) (fun v w h => h) (gRun_move 4 30 (.inl rfl) rfl (by decide +kernel) (fun v w h => h))) ?_
    refine gSt (gStep_on 12 29 true rfl rfl (by decide +kernel) (fun v w h => h) ?_) ?_
    · intro ρ W hC hc hf hL
      have e30 : ρ (.tmp 30) = .bool false := hL 30 (by decide +kernel)
      simp [go_sem, hc, hf, e30]
      exact ⟨Below.refl _ _, rfl⟩
    refine gSt (gStep_run rfl (gRun_pickT 29 31 32 _ rfl rfl (by decide +kernel) (by decide +kernel) (fun v w h => h) (fun v w h => h))) ?_
    refine gSt (gStep_run rfl (gRun_move 32 0 (.inr rfl) rfl (by decide +kernel) (fun v w h => h))) ?_
    exact gSt0
  · intro W hC
    refine gFi 17 rfl ?_
    rintro _ rfl
    refine gFi 18 rfl ?_
    rintro _ rfl
    refine gFi 19 rfl ?_
    rintro _ rfl
    refine gFi 20 rfl ?_
    rintro _ rfl
    refine gFi 21 rfl ?_
    rintro _ rfl
    refine gFi 22 rfl ?_
    rintro _ rfl
    refine gFi 23 rfl ?_
    rintro _ rfl
    refine gFi 24 rfl ?_
    rintro _ rfl
    refine gFi 25 rfl ?_
    rintro _ rfl
    refine gFi 26 rfl ?_
    rintro _ rfl
    refine gFi 27 rfl ?_
    rintro _ rfl
    refine gFi 28 rfl ?_
    rintro _ rfl
    refine gFi 29 rfl ?_
    rintro _ rfl
    refine gFi 30 rfl ?_
    rintro _ rfl
    refine gFi 31 rfl ?_
    rintro _ rfl
    refine gFi 32 rfl ?_
    rintro _ rfl
    refine gFi 0 rfl ?_
    rintro _ rfl
    refine gFi0 ?_
    simp only [List.drop_succ_cons, List.drop_zero, Act.put, List.setIfInBounds_toArray, List.set_cons_succ, List.set_cons_zero]
    have HB0 := hide hC.1
    clear hC HBL H1 H3
    go_wp2
    go_ret
    exact ⟨rfl, HB0.out⟩

theorem awake3_num (x y r q : Nat) (hq : 2 ^ q = QQ) (h2 : x + x = q) (hr : r + y = q) : 2 ^ x * 2 ^ x = QQ ∧ QQ / 2 ^ r = 2 ^ y ∧ 2 ^ y * 2 ^ r = QQ := by
  refine ⟨by rw [← Nat.pow_add, h2, hq], ?_, by rw [← Nat.pow_add, Nat.add_comm, hr, hq]⟩
  rw [← hq, ← hr, Nat.pow_add, Nat.mul_div_cancel_left _ (Nat.two_pow_pos r)]

theorem pow_lt_qq (n q : Nat) (hq : 2 ^ q = QQ) (h : n < q) : 2 ^ n < QQ := by rw [← hq]; exact Nat.pow_lt_pow_right (by decide) h

theorem awake3_any (w : World) : Calls Try.prog 48 #[] w fun e w' => e = .returned (.bool true) ∧ Below w.heap.size w w' := by
  have hq := qq_pow 512 rfl
  have hn := awake3_num 256 212 300 512 hq rfl rfl
  have hX := pow_lt_qq 256 512 hq (by decide)
  have hM := fun w => prodMul_any (2 ^ 256) (2 ^ 256) hX hX w
  have hH := fun w => prodHigh_any (2 ^ 256) (2 ^ 256) 300 300 (by decide) (by decide) hX hX w
  have hPX := fun w => power_lt 256 512 hq (by decide) 256 rfl rfl w
  have hPY := fun w => power_lt 212 512 hq (by decide) 212 rfl rfl w
  generalize (2 : Nat) ^ 256 = X at *
  generalize (2 : Nat) ^ 212 = Y at *
  rw [hn.1, decide_eq_false (Nat.lt_irrefl QQ)] at hM
  rw [hn.1, hn.2.1, hn.2.2, decide_eq_true rfl] at hH
  refine awake3_walk X Y w hPX hPY hM hH (fun w => ?_)
  have h := wide_eqz (show 0 < QQ by omega) w
  rw [w8_mod (show 0 % QQ = QQ % QQ by rw [Nat.mod_self, Nat.zero_mod]), decide_eq_true rfl] at h
  exact h

end Go.Proofs.Ytenbomfoihajhaa

