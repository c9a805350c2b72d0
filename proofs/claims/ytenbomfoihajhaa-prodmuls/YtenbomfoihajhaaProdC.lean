/- Contracts: prod.halves, prod.all. -/
import Derived.Test.YtenbomfoihajhaaProdB
import Derived.Test.YtenbomfoihajhaaGrowG
set_option linter.unusedVariables false
set_option linter.unusedSimpArgs false
set_option maxRecDepth 8000
namespace Go.Proofs.Ytenbomfoihajhaa
open Go.RowKit Plain

/-- Sixteen limbs lie in a block. -/
def Lies16 (W : World) (b S : Nat) : Prop := (∀ i, i < 16 → W.cell? ⟨b, i, none⟩ = some (.int .u64 (dgl S i : Nat))) ∧ b < W.heap.size
theorem Lies16.below {W W' : World} {b S : Nat} (h : Lies16 W b S) (hb : Below W.heap.size W W') : Lies16 W' b S :=
  ⟨fun i hi => (hb.cell (p := ⟨b, i, none⟩) h.2).trans (h.1 i hi), Nat.lt_of_lt_of_le h.2 hb.size⟩
theorem lies16_new (w : World) (S : Nat) (e : TypeId) : Lies16 (w.alloc (.cells #[.int .u64 (dgl (S) 0 : Nat), .int .u64 (dgl (S) 1 : Nat), .int .u64 (dgl (S) 2 : Nat), .int .u64 (dgl (S) 3 : Nat), .int .u64 (dgl (S) 4 : Nat), .int .u64 (dgl (S) 5 : Nat), .int .u64 (dgl (S) 6 : Nat), .int .u64 (dgl (S) 7 : Nat), .int .u64 (dgl (S) 8 : Nat), .int .u64 (dgl (S) 9 : Nat), .int .u64 (dgl (S) 10 : Nat), .int .u64 (dgl (S) 11 : Nat), .int .u64 (dgl (S) 12 : Nat), .int .u64 (dgl (S) 13 : Nat), .int .u64 (dgl (S) 14 : Nat), .int .u64 (dgl (S) 15 : Nat)] e)) w.heap.size S := by
  refine ⟨fun i hi => ?_, by simp⟩
  match i, hi with
  | 0, _ => simp [go_sem]
  | 1, _ => simp [go_sem]
  | 2, _ => simp [go_sem]
  | 3, _ => simp [go_sem]
  | 4, _ => simp [go_sem]
  | 5, _ => simp [go_sem]
  | 6, _ => simp [go_sem]
  | 7, _ => simp [go_sem]
  | 8, _ => simp [go_sem]
  | 9, _ => simp [go_sem]
  | 10, _ => simp [go_sem]
  | 11, _ => simp [go_sem]
  | 12, _ => simp [go_sem]
  | 13, _ => simp [go_sem]
  | 14, _ => simp [go_sem]
  | 15, _ => simp [go_sem]
  | n + 16, h => omega

theorem rd_low {W : World} {b S : Nat} (h : Lies16 W b S) : Rd mk64 W (.slice (some ⟨b, 0, none⟩) 8 16) ((List.range 8).map (dgl S)) := by
  refine ⟨_, 16, by simp, by simp, by simp [maxLen], .inr ⟨b, 0, rfl, h.2, fun i hi => ?_⟩⟩
  have hi8 : i < 8 := by simpa using hi
  rw [Nat.zero_add, h.1 i (by omega)]
  have : dg ((List.range 8).map (dgl S)) i = dgl S i := by simp [dg, hi8]
  rw [this]; rfl
theorem rd_part {W : World} {b S p : Nat} (h : Lies16 W b S) (hp : p ≤ 16) : Rd mk64 W (.slice (some ⟨b, p, none⟩) (16 - p : Nat) (16 - p : Nat)) ((List.range (16 - p)).map fun i => dgl S (p + i)) := by
  refine ⟨some ⟨b, p, none⟩, 16 - p, by simp, by simp, by simp [maxLen]; omega, ?_⟩
  by_cases h0 : p = 16
  · exact .inl (by simp; omega)
  refine .inr ⟨b, p, rfl, h.2, fun i hi => ?_⟩
  have hi8 : i < 16 - p := by simpa using hi
  rw [h.1 (p + i) (by omega)]
  have : dg ((List.range (16 - p)).map fun i => dgl S (p + i)) i = dgl S (p + i) := by simp [dg, hi8]
  rw [this]; rfl
theorem of_low (S b : Nat) (W : World) (h : Lies16 W b S) : Calls Try.prog 71 #[.slice (some ⟨b, 0, none⟩) 8 16] W fun e w' => e = .returned (.agg #[.int .u64 (dgl (S) 0 : Nat), .int .u64 (dgl (S) 1 : Nat), .int .u64 (dgl (S) 2 : Nat), .int .u64 (dgl (S) 3 : Nat), .int .u64 (dgl (S) 4 : Nat), .int .u64 (dgl (S) 5 : Nat), .int .u64 (dgl (S) 6 : Nat), .int .u64 (dgl (S) 7 : Nat)]) ∧ Below W.heap.size W w' :=
  wideOf_any _ S _ W (rd_low h) (fun i hi => by simp [dg, hi])
theorem of_high (S b : Nat) (W : World) (h : Lies16 W b S) : Calls Try.prog 71 #[.slice (some ⟨b, 8, none⟩) 8 8] W fun e w' => e = .returned (.agg #[.int .u64 (dgl (S / QQ) 0 : Nat), .int .u64 (dgl (S / QQ) 1 : Nat), .int .u64 (dgl (S / QQ) 2 : Nat), .int .u64 (dgl (S / QQ) 3 : Nat), .int .u64 (dgl (S / QQ) 4 : Nat), .int .u64 (dgl (S / QQ) 5 : Nat), .int .u64 (dgl (S / QQ) 6 : Nat), .int .u64 (dgl (S / QQ) 7 : Nat)]) ∧ Below W.heap.size W w' :=
  wideOf_any _ (S / QQ) _ W (rd_part (p := 8) h (by omega)) (fun i hi => by rw [← dgl_high]; simp [dg, hi])

structure HalfSt (w : World) (S : Nat) (f1 f2 : Nat → Nat) (W : World) : Prop where
  lp : Lies16 W w.heap.size S
  l1 : LiesF W (w.heap.size + 1) f1
  f1 : ∀ i, W.frozen? ⟨w.heap.size + 1, i, none⟩ = false
  l2 : LiesF W (w.heap.size + 2) f2
  f2 : ∀ i, W.frozen? ⟨w.heap.size + 2, i, none⟩ = false
  bel : Below w.heap.size w W
theorem HalfSt.below {w : World} {S : Nat} {f1 f2 : Nat → Nat} {W W' : World} (h : HalfSt w S f1 f2 W) (hb : Below W.heap.size W W') : HalfSt w S f1 f2 W' :=
  ⟨h.lp.below hb, h.l1.below hb, fun i => (hb.frozen (p := ⟨w.heap.size + 1, i, none⟩) h.l1.2).trans (h.f1 i), h.l2.below hb, fun i => (hb.frozen (p := ⟨w.heap.size + 2, i, none⟩) h.l2.2).trans (h.f2 i), below_trans h.bel hb⟩
theorem lies_ne {W : World} {b B : Nat} {f : Nat → Nat} {x0 x1 x2 x3 x4 x5 x6 x7 : Value} (h : LiesF W b f) (hne : b ≠ B) : LiesF ((((((((W.setCell ⟨B, 0, none⟩ x0).setCell ⟨B, 1, none⟩ x1).setCell ⟨B, 2, none⟩ x2).setCell ⟨B, 3, none⟩ x3).setCell ⟨B, 4, none⟩ x4).setCell ⟨B, 5, none⟩ x5).setCell ⟨B, 6, none⟩ x6).setCell ⟨B, 7, none⟩ x7) b f := by
  refine ⟨fun i hi => ?_, by simpa using h.2⟩
  have := h.1 i hi
  simp [go_sem, this, hne]
theorem lies16_ne {W : World} {b B S : Nat} {x0 x1 x2 x3 x4 x5 x6 x7 : Value} (h : Lies16 W b S) (hne : b ≠ B) : Lies16 ((((((((W.setCell ⟨B, 0, none⟩ x0).setCell ⟨B, 1, none⟩ x1).setCell ⟨B, 2, none⟩ x2).setCell ⟨B, 3, none⟩ x3).setCell ⟨B, 4, none⟩ x4).setCell ⟨B, 5, none⟩ x5).setCell ⟨B, 6, none⟩ x6).setCell ⟨B, 7, none⟩ x7) b S := by
  refine ⟨fun i hi => ?_, by simpa using h.2⟩
  have := h.1 i hi
  simp [go_sem, this, hne]
theorem HalfSt.set1 {w : World} {S : Nat} {f1 f2 g : Nat → Nat} {W : World} (h : HalfSt w S f1 f2 W) : HalfSt w S g f2 ((((((((W.setCell ⟨w.heap.size + 1, 0, none⟩ (.int .u64 (g 0 : Nat))).setCell ⟨w.heap.size + 1, 1, none⟩ (.int .u64 (g 1 : Nat))).setCell ⟨w.heap.size + 1, 2, none⟩ (.int .u64 (g 2 : Nat))).setCell ⟨w.heap.size + 1, 3, none⟩ (.int .u64 (g 3 : Nat))).setCell ⟨w.heap.size + 1, 4, none⟩ (.int .u64 (g 4 : Nat))).setCell ⟨w.heap.size + 1, 5, none⟩ (.int .u64 (g 5 : Nat))).setCell ⟨w.heap.size + 1, 6, none⟩ (.int .u64 (g 6 : Nat))).setCell ⟨w.heap.size + 1, 7, none⟩ (.int .u64 (g 7 : Nat))) :=
  ⟨lies16_ne h.lp (by omega), set8_same W _ g f1 h.l1, fun i => by simpa [go_sem] using h.f1 i, lies_ne h.l2 (by omega), fun i => by simpa [go_sem] using h.f2 i, below_set8 h.bel _ (by omega) _ _ _ _ _ _ _ _⟩
theorem HalfSt.set2 {w : World} {S : Nat} {f1 f2 g : Nat → Nat} {W : World} (h : HalfSt w S f1 f2 W) : HalfSt w S f1 g ((((((((W.setCell ⟨w.heap.size + 2, 0, none⟩ (.int .u64 (g 0 : Nat))).setCell ⟨w.heap.size + 2, 1, none⟩ (.int .u64 (g 1 : Nat))).setCell ⟨w.heap.size + 2, 2, none⟩ (.int .u64 (g 2 : Nat))).setCell ⟨w.heap.size + 2, 3, none⟩ (.int .u64 (g 3 : Nat))).setCell ⟨w.heap.size + 2, 4, none⟩ (.int .u64 (g 4 : Nat))).setCell ⟨w.heap.size + 2, 5, none⟩ (.int .u64 (g 5 : Nat))).setCell ⟨w.heap.size + 2, 6, none⟩ (.int .u64 (g 6 : Nat))).setCell ⟨w.heap.size + 2, 7, none⟩ (.int .u64 (g 7 : Nat))) :=
  ⟨lies16_ne h.lp (by omega), lies_ne h.l1 (by omega), fun i => by simpa [go_sem] using h.f1 i, set8_same W _ g f2 h.l2, fun i => by simpa [go_sem] using h.f2 i, below_set8 h.bel _ (by omega) _ _ _ _ _ _ _ _⟩
theorem HalfSt.start (w : World) (S : Nat) : HalfSt w S (fun _ => 0) (fun _ => 0) (((w.alloc (.cells #[.int .u64 (dgl (S) 0 : Nat), .int .u64 (dgl (S) 1 : Nat), .int .u64 (dgl (S) 2 : Nat), .int .u64 (dgl (S) 3 : Nat), .int .u64 (dgl (S) 4 : Nat), .int .u64 (dgl (S) 5 : Nat), .int .u64 (dgl (S) 6 : Nat), .int .u64 (dgl (S) 7 : Nat), .int .u64 (dgl (S) 8 : Nat), .int .u64 (dgl (S) 9 : Nat), .int .u64 (dgl (S) 10 : Nat), .int .u64 (dgl (S) 11 : Nat), .int .u64 (dgl (S) 12 : Nat), .int .u64 (dgl (S) 13 : Nat), .int .u64 (dgl (S) 14 : Nat), .int .u64 (dgl (S) 15 : Nat)] 101)).alloc (.cells #[.int .u64 0, .int .u64 0, .int .u64 0, .int .u64 0, .int .u64 0, .int .u64 0, .int .u64 0, .int .u64 0] 24)).alloc (.cells #[.int .u64 0, .int .u64 0, .int .u64 0, .int .u64 0, .int .u64 0, .int .u64 0, .int .u64 0, .int .u64 0] 24)) := by
  have h1 := (liesF_new (w.alloc (.cells #[.int .u64 (dgl (S) 0 : Nat), .int .u64 (dgl (S) 1 : Nat), .int .u64 (dgl (S) 2 : Nat), .int .u64 (dgl (S) 3 : Nat), .int .u64 (dgl (S) 4 : Nat), .int .u64 (dgl (S) 5 : Nat), .int .u64 (dgl (S) 6 : Nat), .int .u64 (dgl (S) 7 : Nat), .int .u64 (dgl (S) 8 : Nat), .int .u64 (dgl (S) 9 : Nat), .int .u64 (dgl (S) 10 : Nat), .int .u64 (dgl (S) 11 : Nat), .int .u64 (dgl (S) 12 : Nat), .int .u64 (dgl (S) 13 : Nat), .int .u64 (dgl (S) 14 : Nat), .int .u64 (dgl (S) 15 : Nat)] 101)) (fun _ => 0) 24).alloc (.cells #[.int .u64 0, .int .u64 0, .int .u64 0, .int .u64 0, .int .u64 0, .int .u64 0, .int .u64 0, .int .u64 0] 24)
  have h2 := liesF_new ((w.alloc (.cells #[.int .u64 (dgl (S) 0 : Nat), .int .u64 (dgl (S) 1 : Nat), .int .u64 (dgl (S) 2 : Nat), .int .u64 (dgl (S) 3 : Nat), .int .u64 (dgl (S) 4 : Nat), .int .u64 (dgl (S) 5 : Nat), .int .u64 (dgl (S) 6 : Nat), .int .u64 (dgl (S) 7 : Nat), .int .u64 (dgl (S) 8 : Nat), .int .u64 (dgl (S) 9 : Nat), .int .u64 (dgl (S) 10 : Nat), .int .u64 (dgl (S) 11 : Nat), .int .u64 (dgl (S) 12 : Nat), .int .u64 (dgl (S) 13 : Nat), .int .u64 (dgl (S) 14 : Nat), .int .u64 (dgl (S) 15 : Nat)] 101)).alloc (.cells #[.int .u64 0, .int .u64 0, .int .u64 0, .int .u64 0, .int .u64 0, .int .u64 0, .int .u64 0, .int .u64 0] 24)) (fun _ => 0) 24
  simp only [World.size_alloc] at h1 h2
  exact ⟨((lies16_new w S 101).below (below_allocs _ _)).below (below_allocs _ _), h1, fun i => by simp [go_sem], h2, fun i => by simp [go_sem], below_trans (below_trans (below_allocs _ _) (below_allocs _ _)) (below_allocs _ _)⟩

set_option maxHeartbeats 2000000 in
theorem halves_any (S : Nat) (w : World) :
    Calls Try.prog 79 #[.agg #[.int .u64 (dgl (S) 0 : Nat), .int .u64 (dgl (S) 1 : Nat), .int .u64 (dgl (S) 2 : Nat), .int .u64 (dgl (S) 3 : Nat), .int .u64 (dgl (S) 4 : Nat), .int .u64 (dgl (S) 5 : Nat), .int .u64 (dgl (S) 6 : Nat), .int .u64 (dgl (S) 7 : Nat), .int .u64 (dgl (S) 8 : Nat), .int .u64 (dgl (S) 9 : Nat), .int .u64 (dgl (S) 10 : Nat), .int .u64 (dgl (S) 11 : Nat), .int .u64 (dgl (S) 12 : Nat), .int .u64 (dgl (S) 13 : Nat), .int .u64 (dgl (S) 14 : Nat), .int .u64 (dgl (S) 15 : Nat)]] w fun e w' => e = .returned (.tuple #[.agg #[.int .u64 (dgl (S) 0 : Nat), .int .u64 (dgl (S) 1 : Nat), .int .u64 (dgl (S) 2 : Nat), .int .u64 (dgl (S) 3 : Nat), .int .u64 (dgl (S) 4 : Nat), .int .u64 (dgl (S) 5 : Nat), .int .u64 (dgl (S) 6 : Nat), .int .u64 (dgl (S) 7 : Nat)], .agg #[.int .u64 (dgl (S / QQ) 0 : Nat), .int .u64 (dgl (S / QQ) 1 : Nat), .int .u64 (dgl (S / QQ) 2 : Nat), .int .u64 (dgl (S / QQ) 3 : Nat), .int .u64 (dgl (S / QQ) 4 : Nat), .int .u64 (dgl (S / QQ) 5 : Nat), .int .u64 (dgl (S / QQ) 6 : Nat), .int .u64 (dgl (S / QQ) 7 : Nat)]]) ∧ Below w.heap.size w w' := by
  have HST := hide (HalfSt.start w S)
  go_enter Try.func79, Try.ntmps79
  go_upto_region 1 with fail
  refine wp_gen (fun W => HalfSt w S (fun _ => 0) (fun _ => 0) W) HST.out ?_
  rintro W1 h1
  clear HST
  refine wp_region_store 6 [4, 5] [(4, .slice (some ⟨w.heap.size, 0, none⟩) 8 16), (5, .agg #[.int .u64 (dgl (S) 0 : Nat), .int .u64 (dgl (S) 1 : Nat), .int .u64 (dgl (S) 2 : Nat), .int .u64 (dgl (S) 3 : Nat), .int .u64 (dgl (S) 4 : Nat), .int .u64 (dgl (S) 5 : Nat), .int .u64 (dgl (S) 6 : Nat), .int .u64 (dgl (S) 7 : Nat)]), (6, .slice (some ⟨w.heap.size, 8, none⟩) 8 8), (7, .agg #[.int .u64 (dgl (S / QQ) 0 : Nat), .int .u64 (dgl (S / QQ) 1 : Nat), .int .u64 (dgl (S / QQ) 2 : Nat), .int .u64 (dgl (S / QQ) 3 : Nat), .int .u64 (dgl (S / QQ) 4 : Nat), .int .u64 (dgl (S / QQ) 5 : Nat), .int .u64 (dgl (S / QQ) 6 : Nat), .int .u64 (dgl (S / QQ) 7 : Nat)])]
    (fun bs W => HalfSt w S (bif bs.headD false then dgl S else fun _ => 0) (bif bs.tail.headD false then dgl (S / QQ) else fun _ => 0) W) mixedOk (by kernel_rfl) (by kernel_rfl) (by kernel_rfl) (h1.below (Below.refl _ _).drew) (fun bs W W' h hb => h.below hb) ?_ ?_
  · refine sSt rfl (fun bs => gStep_run rfl ?_) ?_
    · intro ρ W hC hc hf hL
      have e1 : ρ (.tmp 1) = .pointer (some ⟨w.heap.size, 0, none⟩) := hL 1 (by decide +kernel)
      have hl := hC.lp.2
      simp [go_sem, hc, hf, e1, hl]
      exact ⟨Below.refl _ _, rfl⟩
    refine sSt rfl (fun bs => gStep_run rfl ?_) ?_
    · intro ρ W hC hc hf hL
      have e4 : ρ (.tmp 4) = .slice (some ⟨w.heap.size, 0, none⟩) 8 16 := hL 4 (by decide +kernel)
      simp [go_sem, hc, hf, e4]
      refine (of_low S _ _ hC.lp).mono ?_
      rintro e w' ⟨rfl, hb⟩
      exact ⟨_, rfl, by first | exact hb | (subst hb; exact Below.refl _ _), rfl⟩
    refine sSt rfl (fun bs => gStep_run rfl ?_) ?_
    · intro ρ W hC hc hf hL
      have e1 : ρ (.tmp 1) = .pointer (some ⟨w.heap.size, 0, none⟩) := hL 1 (by decide +kernel)
      have hl := hC.lp.2
      simp [go_sem, hc, hf, e1, hl]
      exact ⟨Below.refl _ _, rfl⟩
    refine sSt rfl (fun bs => gStep_run rfl ?_) ?_
    · intro ρ W hC hc hf hL
      have e6 : ρ (.tmp 6) = .slice (some ⟨w.heap.size, 8, none⟩) 8 8 := hL 6 (by decide +kernel)
      simp [go_sem, hc, hf, e6]
      refine (of_high S _ _ hC.lp).mono ?_
      rintro e w' ⟨rfl, hb⟩
      exact ⟨_, rfl, by first | exact hb | (subst hb; exact Below.refl _ _), rfl⟩
    refine sStS rfl ⟨rfl, rfl, ?_⟩ ?_
    · intro φ ρ W hφ hC hc hL
      have e2 : ρ (.tmp 2) = .pointer (some ⟨w.heap.size + 1, 0, none⟩) := hL 2 (by decide +kernel)
      have e5 : ρ (.tmp 5) = .agg #[.int .u64 (dgl (S) 0 : Nat), .int .u64 (dgl (S) 1 : Nat), .int .u64 (dgl (S) 2 : Nat), .int .u64 (dgl (S) 3 : Nat), .int .u64 (dgl (S) 4 : Nat), .int .u64 (dgl (S) 5 : Nat), .int .u64 (dgl (S) 6 : Nat), .int .u64 (dgl (S) 7 : Nat)] := hL 5 (by decide +kernel)
      change HalfSt w S (bif φ 4 then dgl S else fun _ => 0) (bif φ 5 then dgl (S / QQ) else fun _ => 0) W at hC
      rw [hφ] at hC
      have hz := hC.l1.1
      have hzl := hC.l1.2
      have hzf := hC.f1
      simp only [cond_false] at hz
      simp [go_sem, hc, e2, e5, hz, hzf, hzl]
      change HalfSt w S (dgl S) (bif (φ 5 || false) then dgl (S / QQ) else fun _ => 0) _
      rw [Bool.or_false]
      exact hC.set1
    refine sStS rfl ⟨rfl, rfl, ?_⟩ ?_
    · intro φ ρ W hφ hC hc hL
      have e3 : ρ (.tmp 3) = .pointer (some ⟨w.heap.size + 2, 0, none⟩) := hL 3 (by decide +kernel)
      have e7 : ρ (.tmp 7) = .agg #[.int .u64 (dgl (S / QQ) 0 : Nat), .int .u64 (dgl (S / QQ) 1 : Nat), .int .u64 (dgl (S / QQ) 2 : Nat), .int .u64 (dgl (S / QQ) 3 : Nat), .int .u64 (dgl (S / QQ) 4 : Nat), .int .u64 (dgl (S / QQ) 5 : Nat), .int .u64 (dgl (S / QQ) 6 : Nat), .int .u64 (dgl (S / QQ) 7 : Nat)] := hL 7 (by decide +kernel)
      change HalfSt w S (bif φ 4 then dgl S else fun _ => 0) (bif φ 5 then dgl (S / QQ) else fun _ => 0) W at hC
      rw [hφ] at hC
      have hz := hC.l2.1
      have hzl := hC.l2.2
      have hzf := hC.f2
      simp only [cond_false] at hz
      simp [go_sem, hc, e3, e7, hz, hzf, hzl]
      change HalfSt w S (bif (φ 4 || false) then dgl S else fun _ => 0) (dgl (S / QQ)) _
      rw [Bool.or_false]
      exact hC.set2
    exact sSt0
  · intro W hC
    refine gFi 4 rfl ?_
    rintro _ rfl
    refine gFi 5 rfl ?_
    rintro _ rfl
    refine gFi 6 rfl ?_
    rintro _ rfl
    refine gFi 7 rfl ?_
    rintro _ rfl
    refine gFiN rfl ?_
    refine gFiN rfl ?_
    refine gFi0 ?_
    simp only [List.drop_succ_cons, List.drop_zero, Act.put, List.setIfInBounds_toArray, List.set_cons_succ, List.set_cons_zero]
    have hr1 := hC.l1.1
    have hr2 := hC.l2.1
    have HB := hide hC.bel
    clear hC h1
    change ∀ i, i < 8 → W.cell? ⟨w.heap.size + 1, i, none⟩ = some (.int .u64 (dgl S i : Nat)) at hr1
    change ∀ i, i < 8 → W.cell? ⟨w.heap.size + 2, i, none⟩ = some (.int .u64 (dgl (S / QQ) i : Nat)) at hr2
    go_wp2
    exact bodyPost_ret (v := .tuple #[.agg #[.int .u64 (dgl (S) 0 : Nat), .int .u64 (dgl (S) 1 : Nat), .int .u64 (dgl (S) 2 : Nat), .int .u64 (dgl (S) 3 : Nat), .int .u64 (dgl (S) 4 : Nat), .int .u64 (dgl (S) 5 : Nat), .int .u64 (dgl (S) 6 : Nat), .int .u64 (dgl (S) 7 : Nat)], .agg #[.int .u64 (dgl (S / QQ) 0 : Nat), .int .u64 (dgl (S / QQ) 1 : Nat), .int .u64 (dgl (S / QQ) 2 : Nat), .int .u64 (dgl (S / QQ) 3 : Nat), .int .u64 (dgl (S / QQ) 4 : Nat), .int .u64 (dgl (S / QQ) 5 : Nat), .int .u64 (dgl (S / QQ) 6 : Nat), .int .u64 (dgl (S / QQ) 7 : Nat)]]) (by simp [results, Try.results79, go_sem, hr1, hr2]) rfl ⟨rfl, HB.out⟩

theorem all_any (p : Nat) (w : World) : Calls Try.prog 81 #[.int .i64 (p : Nat)] w fun e w' => e = .returned (.bool true) ∧ w' = w := by
  go_enter Try.func81, Try.ntmps81
  go_wp2
  go_ret
  exact ⟨rfl, rfl⟩

theorem summed_all (a b : Nat) (ha : a < QQ) (hb : b < QQ) (w : World) :
    Calls Try.prog 80 #[.agg #[.int .u64 (dgl (a) 0 : Nat), .int .u64 (dgl (a) 1 : Nat), .int .u64 (dgl (a) 2 : Nat), .int .u64 (dgl (a) 3 : Nat), .int .u64 (dgl (a) 4 : Nat), .int .u64 (dgl (a) 5 : Nat), .int .u64 (dgl (a) 6 : Nat), .int .u64 (dgl (a) 7 : Nat)], .agg #[.int .u64 (dgl (b) 0 : Nat), .int .u64 (dgl (b) 1 : Nat), .int .u64 (dgl (b) 2 : Nat), .int .u64 (dgl (b) 3 : Nat), .int .u64 (dgl (b) 4 : Nat), .int .u64 (dgl (b) 5 : Nat), .int .u64 (dgl (b) 6 : Nat), .int .u64 (dgl (b) 7 : Nat)], .func (.func 81) #[] #[]] w fun e w' => e = .returned (.agg #[.int .u64 (dgl (a * b) 0 : Nat), .int .u64 (dgl (a * b) 1 : Nat), .int .u64 (dgl (a * b) 2 : Nat), .int .u64 (dgl (a * b) 3 : Nat), .int .u64 (dgl (a * b) 4 : Nat), .int .u64 (dgl (a * b) 5 : Nat), .int .u64 (dgl (a * b) 6 : Nat), .int .u64 (dgl (a * b) 7 : Nat), .int .u64 (dgl (a * b) 8 : Nat), .int .u64 (dgl (a * b) 9 : Nat), .int .u64 (dgl (a * b) 10 : Nat), .int .u64 (dgl (a * b) 11 : Nat), .int .u64 (dgl (a * b) 12 : Nat), .int .u64 (dgl (a * b) 13 : Nat), .int .u64 (dgl (a * b) 14 : Nat), .int .u64 (dgl (a * b) 15 : Nat)]) ∧ Below w.heap.size w w' := by
  have h := summed_any 81 #[] (fun _ => true) a b w (enters_of Try.func81 (by kernel_rfl) rfl) (fun p wr hp hb => all_any p wr)
  rw [all_mul a b ha hb] at h
  exact h

end Go.Proofs.Ytenbomfoihajhaa
