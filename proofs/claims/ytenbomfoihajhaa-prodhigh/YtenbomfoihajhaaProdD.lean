/- Contracts: prod.Mul, Square, Small. -/
import Derived.Test.YtenbomfoihajhaaProdC
set_option linter.unusedVariables false
set_option linter.unusedSimpArgs false
set_option maxRecDepth 8000
namespace Go.Proofs.Ytenbomfoihajhaa
open Go.RowKit Plain

/-- The result's block, and that nothing below has changed. -/
structure ResSt (w : World) (r : Nat) (f : Nat → Nat) (W : World) : Prop where
  lr : LiesF W r f
  fr : ∀ i, W.frozen? ⟨r, i, none⟩ = false
  bel : Below w.heap.size w W
theorem ResSt.below {w : World} {r : Nat} {f : Nat → Nat} {W W' : World} (h : ResSt w r f W) (hb : Below W.heap.size W W') : ResSt w r f W' :=
  ⟨h.lr.below hb, fun i => (hb.frozen (p := ⟨r, i, none⟩) h.lr.2).trans (h.fr i), below_trans h.bel hb⟩
theorem ResSt.set8 {w : World} {r : Nat} {f g : Nat → Nat} {W : World} (h : ResSt w r f W) (hr : w.heap.size ≤ r) : ResSt w r g ((((((((W.setCell ⟨r, 0, none⟩ (.int .u64 (g 0 : Nat))).setCell ⟨r, 1, none⟩ (.int .u64 (g 1 : Nat))).setCell ⟨r, 2, none⟩ (.int .u64 (g 2 : Nat))).setCell ⟨r, 3, none⟩ (.int .u64 (g 3 : Nat))).setCell ⟨r, 4, none⟩ (.int .u64 (g 4 : Nat))).setCell ⟨r, 5, none⟩ (.int .u64 (g 5 : Nat))).setCell ⟨r, 6, none⟩ (.int .u64 (g 6 : Nat))).setCell ⟨r, 7, none⟩ (.int .u64 (g 7 : Nat))) :=
  ⟨set8_same W r g f h.lr, fun i => by simpa [go_sem] using h.fr i, below_set8 h.bel _ hr _ _ _ _ _ _ _ _⟩

set_option maxHeartbeats 2000000 in
theorem prodMul_walk (fa fb fl fh : Nat → Nat) (S : Nat) (t : Bool) (w : World)
    (HSUM : Hid (∀ w, Calls Try.prog 80 #[.agg #[.int .u64 (fa 0 : Nat), .int .u64 (fa 1 : Nat), .int .u64 (fa 2 : Nat), .int .u64 (fa 3 : Nat), .int .u64 (fa 4 : Nat), .int .u64 (fa 5 : Nat), .int .u64 (fa 6 : Nat), .int .u64 (fa 7 : Nat)], .agg #[.int .u64 (fb 0 : Nat), .int .u64 (fb 1 : Nat), .int .u64 (fb 2 : Nat), .int .u64 (fb 3 : Nat), .int .u64 (fb 4 : Nat), .int .u64 (fb 5 : Nat), .int .u64 (fb 6 : Nat), .int .u64 (fb 7 : Nat)], .func (.func 81) #[] #[]] w fun e w' => e = .returned (.agg #[.int .u64 (dgl (S) 0 : Nat), .int .u64 (dgl (S) 1 : Nat), .int .u64 (dgl (S) 2 : Nat), .int .u64 (dgl (S) 3 : Nat), .int .u64 (dgl (S) 4 : Nat), .int .u64 (dgl (S) 5 : Nat), .int .u64 (dgl (S) 6 : Nat), .int .u64 (dgl (S) 7 : Nat), .int .u64 (dgl (S) 8 : Nat), .int .u64 (dgl (S) 9 : Nat), .int .u64 (dgl (S) 10 : Nat), .int .u64 (dgl (S) 11 : Nat), .int .u64 (dgl (S) 12 : Nat), .int .u64 (dgl (S) 13 : Nat), .int .u64 (dgl (S) 14 : Nat), .int .u64 (dgl (S) 15 : Nat)]) ∧ Below w.heap.size w w'))
    (HHAL : Hid (∀ w, Calls Try.prog 79 #[.agg #[.int .u64 (dgl (S) 0 : Nat), .int .u64 (dgl (S) 1 : Nat), .int .u64 (dgl (S) 2 : Nat), .int .u64 (dgl (S) 3 : Nat), .int .u64 (dgl (S) 4 : Nat), .int .u64 (dgl (S) 5 : Nat), .int .u64 (dgl (S) 6 : Nat), .int .u64 (dgl (S) 7 : Nat), .int .u64 (dgl (S) 8 : Nat), .int .u64 (dgl (S) 9 : Nat), .int .u64 (dgl (S) 10 : Nat), .int .u64 (dgl (S) 11 : Nat), .int .u64 (dgl (S) 12 : Nat), .int .u64 (dgl (S) 13 : Nat), .int .u64 (dgl (S) 14 : Nat), .int .u64 (dgl (S) 15 : Nat)]] w fun e w' => e = .returned (.tuple #[.agg #[.int .u64 (fl 0 : Nat), .int .u64 (fl 1 : Nat), .int .u64 (fl 2 : Nat), .int .u64 (fl 3 : Nat), .int .u64 (fl 4 : Nat), .int .u64 (fl 5 : Nat), .int .u64 (fl 6 : Nat), .int .u64 (fl 7 : Nat)], .agg #[.int .u64 (fh 0 : Nat), .int .u64 (fh 1 : Nat), .int .u64 (fh 2 : Nat), .int .u64 (fh 3 : Nat), .int .u64 (fh 4 : Nat), .int .u64 (fh 5 : Nat), .int .u64 (fh 6 : Nat), .int .u64 (fh 7 : Nat)]]) ∧ Below w.heap.size w w'))
    (heq : ∀ w, (Op.equalIn 10000 24 (.agg #[.int .u64 (fh 0 : Nat), .int .u64 (fh 1 : Nat), .int .u64 (fh 2 : Nat), .int .u64 (fh 3 : Nat), .int .u64 (fh 4 : Nat), .int .u64 (fh 5 : Nat), .int .u64 (fh 6 : Nat), .int .u64 (fh 7 : Nat)]) (.agg #[.int .u64 0, .int .u64 0, .int .u64 0, .int .u64 0, .int .u64 0, .int .u64 0, .int .u64 0, .int .u64 0])).run Try.prog w = .ok t w) :
    Calls Try.prog 43 #[.agg #[.int .u64 (fa 0 : Nat), .int .u64 (fa 1 : Nat), .int .u64 (fa 2 : Nat), .int .u64 (fa 3 : Nat), .int .u64 (fa 4 : Nat), .int .u64 (fa 5 : Nat), .int .u64 (fa 6 : Nat), .int .u64 (fa 7 : Nat)], .agg #[.int .u64 (fb 0 : Nat), .int .u64 (fb 1 : Nat), .int .u64 (fb 2 : Nat), .int .u64 (fb 3 : Nat), .int .u64 (fb 4 : Nat), .int .u64 (fb 5 : Nat), .int .u64 (fb 6 : Nat), .int .u64 (fb 7 : Nat)]] w fun e w' => e = .returned (.tuple #[.agg #[.int .u64 (fl 0 : Nat), .int .u64 (fl 1 : Nat), .int .u64 (fl 2 : Nat), .int .u64 (fl 3 : Nat), .int .u64 (fl 4 : Nat), .int .u64 (fl 5 : Nat), .int .u64 (fl 6 : Nat), .int .u64 (fl 7 : Nat)], .bool t]) ∧ Below w.heap.size w w' := by
  have HS0 : Hid (ResSt w (w.heap.size + 1 + 1) (fun _ => 0) (((w.alloc (.cells #[.int .u64 (fa 0 : Nat), .int .u64 (fa 1 : Nat), .int .u64 (fa 2 : Nat), .int .u64 (fa 3 : Nat), .int .u64 (fa 4 : Nat), .int .u64 (fa 5 : Nat), .int .u64 (fa 6 : Nat), .int .u64 (fa 7 : Nat)] 24)).alloc (.cells #[.int .u64 (fb 0 : Nat), .int .u64 (fb 1 : Nat), .int .u64 (fb 2 : Nat), .int .u64 (fb 3 : Nat), .int .u64 (fb 4 : Nat), .int .u64 (fb 5 : Nat), .int .u64 (fb 6 : Nat), .int .u64 (fb 7 : Nat)] 24)).alloc (.cells #[.int .u64 0, .int .u64 0, .int .u64 0, .int .u64 0, .int .u64 0, .int .u64 0, .int .u64 0, .int .u64 0] 24))) := by
    have h2 := liesF_new ((w.alloc (.cells #[.int .u64 (fa 0 : Nat), .int .u64 (fa 1 : Nat), .int .u64 (fa 2 : Nat), .int .u64 (fa 3 : Nat), .int .u64 (fa 4 : Nat), .int .u64 (fa 5 : Nat), .int .u64 (fa 6 : Nat), .int .u64 (fa 7 : Nat)] 24)).alloc (.cells #[.int .u64 (fb 0 : Nat), .int .u64 (fb 1 : Nat), .int .u64 (fb 2 : Nat), .int .u64 (fb 3 : Nat), .int .u64 (fb 4 : Nat), .int .u64 (fb 5 : Nat), .int .u64 (fb 6 : Nat), .int .u64 (fb 7 : Nat)] 24)) (fun _ => 0) 24
    simp only [World.size_alloc] at h2
    exact ⟨h2, fun i => by simp [go_sem], below_trans (below_trans (below_allocs _ _) (below_allocs _ _)) (below_allocs _ _)⟩
  go_enter Try.func43, Try.ntmps43
  go_wp2_with fail
  refine (HSUM.out _).mono ?_
  rintro e w1 ⟨rfl, hb1⟩
  have HS1 := hide (HS0.out.below hb1)
  clear HS0 hb1
  go_wp2_with fail
  refine (HHAL.out _).mono ?_
  rintro e w2 ⟨rfl, hb2⟩
  have HS2 := hide (HS1.out.below hb2)
  clear HS1 hb2
  go_upto_region 2 with fail
  refine wp_gen (fun W => ResSt w (w.heap.size + 1 + 1) (fun _ => 0) W ∧ LiesF W w2.heap.size fl ∧ LiesF W (w2.heap.size + 1) fh) ?_ ?_
  · have h3 := liesF_new (w2.alloc (.cells #[.int .u64 (fl 0 : Nat), .int .u64 (fl 1 : Nat), .int .u64 (fl 2 : Nat), .int .u64 (fl 3 : Nat), .int .u64 (fl 4 : Nat), .int .u64 (fl 5 : Nat), .int .u64 (fl 6 : Nat), .int .u64 (fl 7 : Nat)] 24)) fh 24
    rw [World.size_alloc] at h3
    exact ⟨(HS2.out.below (below_allocs _ _)).below (below_allocs _ _), (liesF_new w2 fl 24).alloc _, h3⟩
  rintro W2 h2
  have hp6 : w.heap.size + 1 + 1 < w2.heap.size := HS2.out.lr.2
  generalize hp : w2.heap.size = p6 at *
  obtain ⟨p7, hp7⟩ : ∃ p7, p6 + 1 = p7 := ⟨_, rfl⟩
  rw [hp7] at h2 ⊢
  clear HS2 hp
  refine wp_region_store 5 [4] [(15, .agg #[.int .u64 (fl 0 : Nat), .int .u64 (fl 1 : Nat), .int .u64 (fl 2 : Nat), .int .u64 (fl 3 : Nat), .int .u64 (fl 4 : Nat), .int .u64 (fl 5 : Nat), .int .u64 (fl 6 : Nat), .int .u64 (fl 7 : Nat)]), (16, .agg #[.int .u64 (fh 0 : Nat), .int .u64 (fh 1 : Nat), .int .u64 (fh 2 : Nat), .int .u64 (fh 3 : Nat), .int .u64 (fh 4 : Nat), .int .u64 (fh 5 : Nat), .int .u64 (fh 6 : Nat), .int .u64 (fh 7 : Nat)]), (17, .agg #[.int .u64 0, .int .u64 0, .int .u64 0, .int .u64 0, .int .u64 0, .int .u64 0, .int .u64 0, .int .u64 0]), (18, .bool t)]
    (fun bs W => ResSt w (w.heap.size + 1 + 1) (bif bs.headD false then fl else fun _ => 0) W ∧ LiesF W p6 fl ∧ LiesF W p7 fh) mixedOk (by kernel_rfl) (by kernel_rfl) (by kernel_rfl) (⟨h2.1.below (Below.refl _ _).drew, h2.2.1, h2.2.2⟩) (fun bs W W' h hb => ⟨h.1.below hb, h.2.1.below hb, h.2.2.below hb⟩) ?_ ?_
  · refine sSt rfl (fun bs => gStep_run rfl ?_) ?_
    · intro ρ W hC hc hf hL
      have e6 : ρ (.tmp 6) = .pointer (some ⟨p6, 0, none⟩) := hL 6 (by decide +kernel)
      have hl := hC.2.1.1
      simp [go_sem, hc, hf, e6, hl]
      exact ⟨Below.refl _ _, rfl⟩
    refine sSt rfl (fun bs => gStep_run rfl ?_) ?_
    · intro ρ W hC hc hf hL
      have e7 : ρ (.tmp 7) = .pointer (some ⟨p7, 0, none⟩) := hL 7 (by decide +kernel)
      have hl := hC.2.2.1
      simp [go_sem, hc, hf, e7, hl]
      exact ⟨Below.refl _ _, rfl⟩
    refine sSt rfl (fun bs => gStep_run rfl ?_) ?_
    · intro ρ W hC hc hf hL
      simp [go_sem, hc, hf]
      exact ⟨Below.refl _ _, rfl⟩
    refine sSt rfl (fun bs => gStep_run rfl ?_) ?_
    · intro ρ W hC hc hf hL
      have e16 : ρ (.tmp 16) = .agg #[.int .u64 (fh 0 : Nat), .int .u64 (fh 1 : Nat), .int .u64 (fh 2 : Nat), .int .u64 (fh 3 : Nat), .int .u64 (fh 4 : Nat), .int .u64 (fh 5 : Nat), .int .u64 (fh 6 : Nat), .int .u64 (fh 7 : Nat)] := hL 16 (by decide +kernel)
      have e17 : ρ (.tmp 17) = .agg #[.int .u64 0, .int .u64 0, .int .u64 0, .int .u64 0, .int .u64 0, .int .u64 0, .int .u64 0, .int .u64 0] := hL 17 (by decide +kernel)
      simp [go_sem, hc, hf, e16, e17, heq]
      exact ⟨Below.refl _ _, rfl⟩
    refine sStS rfl ⟨rfl, rfl, ?_⟩ ?_
    · intro φ ρ W hφ hC hc hL
      have e4 : ρ (.tmp 4) = .pointer (some ⟨w.heap.size + 1 + 1, 0, none⟩) := hL 4 (by decide +kernel)
      have e15 : ρ (.tmp 15) = .agg #[.int .u64 (fl 0 : Nat), .int .u64 (fl 1 : Nat), .int .u64 (fl 2 : Nat), .int .u64 (fl 3 : Nat), .int .u64 (fl 4 : Nat), .int .u64 (fl 5 : Nat), .int .u64 (fl 6 : Nat), .int .u64 (fl 7 : Nat)] := hL 15 (by decide +kernel)
      simp only [List.map_cons, List.map_nil, List.headD_cons, hφ, cond_false] at hC
      have hz := hC.1.lr.1
      have hzl := hC.1.lr.2
      have hzf := hC.1.fr
      simp [go_sem, hc, e4, e15, hz, hzf, hzl]
      exact ⟨hC.1.set8 (by omega), lies_ne hC.2.1 (by omega), lies_ne hC.2.2 (by omega)⟩
    exact sSt0
  · intro W hC
    refine gFi 15 rfl ?_
    rintro _ rfl
    refine gFi 16 rfl ?_
    rintro _ rfl
    refine gFi 17 rfl ?_
    rintro _ rfl
    refine gFi 18 rfl ?_
    rintro _ rfl
    refine gFiN rfl ?_
    refine gFi0 ?_
    simp only [List.drop_succ_cons, List.drop_zero, Act.put, List.setIfInBounds_toArray, List.set_cons_succ, List.set_cons_zero]
    have hr := hC.1.lr.1
    have HB := hide hC.1.bel
    clear hC h2
    change ∀ i, i < 8 → W.cell? ⟨w.heap.size + 1 + 1, i, none⟩ = some (.int .u64 (fl i : Nat)) at hr
    go_wp2
    exact bodyPost_ret (v := .tuple #[.agg #[.int .u64 (fl 0 : Nat), .int .u64 (fl 1 : Nat), .int .u64 (fl 2 : Nat), .int .u64 (fl 3 : Nat), .int .u64 (fl 4 : Nat), .int .u64 (fl 5 : Nat), .int .u64 (fl 6 : Nat), .int .u64 (fl 7 : Nat)], .bool t]) (by simp [results, Try.results43, go_sem, hr]) rfl ⟨rfl, HB.out⟩

theorem dgl_z : (dgl 0) = fun _ => 0 := funext dgl_zero
theorem wide_eqz {a : Nat} (ha : a < QQ) (w : World) : (Op.equalIn 10000 24 (.agg #[.int .u64 (dgl (a) 0 : Nat), .int .u64 (dgl (a) 1 : Nat), .int .u64 (dgl (a) 2 : Nat), .int .u64 (dgl (a) 3 : Nat), .int .u64 (dgl (a) 4 : Nat), .int .u64 (dgl (a) 5 : Nat), .int .u64 (dgl (a) 6 : Nat), .int .u64 (dgl (a) 7 : Nat)]) (.agg #[.int .u64 0, .int .u64 0, .int .u64 0, .int .u64 0, .int .u64 0, .int .u64 0, .int .u64 0, .int .u64 0])).run Try.prog w = .ok (decide (a = 0)) w := by
  have h := wide_eqb ha (show 0 < QQ by omega) w
  simp only [dgl_zero] at h
  exact h
theorem qq_mul_lt {a b : Nat} (ha : a < QQ) (hb : b < QQ) : a * b / QQ < QQ := by
  have h : a * b < QQ * QQ := Nat.mul_lt_mul_of_lt_of_lt ha hb
  exact Nat.div_lt_of_lt_mul h
theorem prodMul_any (a b : Nat) (ha : a < QQ) (hb : b < QQ) (w : World) :
    Calls Try.prog 43 #[.agg #[.int .u64 (dgl (a) 0 : Nat), .int .u64 (dgl (a) 1 : Nat), .int .u64 (dgl (a) 2 : Nat), .int .u64 (dgl (a) 3 : Nat), .int .u64 (dgl (a) 4 : Nat), .int .u64 (dgl (a) 5 : Nat), .int .u64 (dgl (a) 6 : Nat), .int .u64 (dgl (a) 7 : Nat)], .agg #[.int .u64 (dgl (b) 0 : Nat), .int .u64 (dgl (b) 1 : Nat), .int .u64 (dgl (b) 2 : Nat), .int .u64 (dgl (b) 3 : Nat), .int .u64 (dgl (b) 4 : Nat), .int .u64 (dgl (b) 5 : Nat), .int .u64 (dgl (b) 6 : Nat), .int .u64 (dgl (b) 7 : Nat)]] w fun e w' => e = .returned (.tuple #[.agg #[.int .u64 (dgl (a * b) 0 : Nat), .int .u64 (dgl (a * b) 1 : Nat), .int .u64 (dgl (a * b) 2 : Nat), .int .u64 (dgl (a * b) 3 : Nat), .int .u64 (dgl (a * b) 4 : Nat), .int .u64 (dgl (a * b) 5 : Nat), .int .u64 (dgl (a * b) 6 : Nat), .int .u64 (dgl (a * b) 7 : Nat)], .bool (decide (a * b < QQ))]) ∧ Below w.heap.size w w' := by
  have hq : decide (a * b / QQ = 0) = decide (a * b < QQ) := by
    rw [decide_eq_decide]
    exact Nat.div_eq_zero_iff_lt (by omega)
  rw [← hq]
  exact prodMul_walk (dgl a) (dgl b) (dgl (a * b)) (dgl (a * b / QQ)) (a * b) _ w (fun w => summed_all a b ha hb w) (fun w => halves_any (a * b) w) (fun w => wide_eqz (qq_mul_lt ha hb) w)

end Go.Proofs.Ytenbomfoihajhaa
