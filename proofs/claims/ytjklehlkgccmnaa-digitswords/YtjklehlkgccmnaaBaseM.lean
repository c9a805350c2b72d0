/- Contracts and laws: ProdC, ProdD, ProdE, GrowP. -/
import Derived.Test.YtjklehlkgccmnaaBaseL
import Derived.Test.YtjklehlkgccmnaaBaseI
/- Contracts: prod.halves, prod.all. -/
set_option linter.unusedVariables false
set_option linter.unusedSimpArgs false
set_option maxRecDepth 8000
namespace Go.Proofs.Ytjklehlkgccmnaa
open Go.RowKit Plain

/-- Sixteen limbs lie in a block. -/
def Lies16 (W : World) (b S : Nat) : Prop := (∀ i, i < 16 → W.cell? ⟨b, i, none⟩ = some (.int .u64 (dgl S i : Nat))) ∧ b < W.heap.size
theorem Lies16.below {W W' : World} {b S : Nat} (h : Lies16 W b S) (hb : Below W.heap.size W W') : Lies16 W' b S :=
  ⟨fun i hi => (hb.cell (p := ⟨b, i, none⟩) h.2).trans (h.1 i hi), Nat.lt_of_lt_of_le h.2 hb.size⟩
theorem lies16_new (w : World) (S : Nat) (e : TypeId) : Lies16 (w.alloc (.cells #[.int .u64 (dgl (S) 0 : Nat), .int .u64 (dgl (S) 1 : Nat), .int .u64 (dgl (S) 2 : Nat), .int .u64 (dgl (S) 3 : Nat), .int .u64 (dgl (S) 4 : Nat), .int .u64 (dgl (S) 5 : Nat), .int .u64 (dgl (S) 6 : Nat), .int .u64 (dgl (S) 7 : Nat), .int .u64 (dgl (S) 8 : Nat), .int .u64 (dgl (S) 9 : Nat), .int .u64 (dgl (S) 10 : Nat), .int .u64 (dgl (S) 11 : Nat), .int .u64 (dgl (S) 12 : Nat), .int .u64 (dgl (S) 13 : Nat), .int .u64 (dgl (S) 14 : Nat), .int .u64 (dgl (S) 15 : Nat)] e)) w.heap.size S := by
  refine ⟨fun i hi => ?_, by simp⟩
  match i, hi with
  | 0, _ => simp [go_sem]
  | 1, _ => simp [go_sem]
  | 2, _ => simp [go_sem]
  | 3, _ => simp [go_sem]
  | 4, _ => simp [go_sem]
  | 5, _ => simp [go_sem]
  | 6, _ => simp [go_sem]
  | 7, _ => simp [go_sem]
  | 8, _ => simp [go_sem]
  | 9, _ => simp [go_sem]
  | 10, _ => simp [go_sem]
  | 11, _ => simp [go_sem]
  | 12, _ => simp [go_sem]
  | 13, _ => simp [go_sem]
  | 14, _ => simp [go_sem]
  | 15, _ => simp [go_sem]
  | n + 16, h => omega

theorem rd_low {W : World} {b S : Nat} (h : Lies16 W b S) : Rd mk64 W (.slice (some ⟨b, 0, none⟩) 8 16) ((List.range 8).map (dgl S)) := by
  refine ⟨_, 16, by simp, by simp, by simp [maxLen], .inr ⟨b, 0, rfl, h.2, fun i hi => ?_⟩⟩
  have hi8 : i < 8 := by simpa using hi
  rw [Nat.zero_add, h.1 i (by omega)]
  have : dg ((List.range 8).map (dgl S)) i = dgl S i := by simp [dg, hi8]
  rw [this]; rfl
theorem rd_part {W : World} {b S p : Nat} (h : Lies16 W b S) (hp : p ≤ 16) : Rd mk64 W (.slice (some ⟨b, p, none⟩) (16 - p : Nat) (16 - p : Nat)) ((List.range (16 - p)).map fun i => dgl S (p + i)) := by
  refine ⟨some ⟨b, p, none⟩, 16 - p, by simp, by simp, by simp [maxLen]; omega, ?_⟩
  by_cases h0 : p = 16
  · exact .inl (by simp; omega)
  refine .inr ⟨b, p, rfl, h.2, fun i hi => ?_⟩
  have hi8 : i < 16 - p := by simpa using hi
  rw [h.1 (p + i) (by omega)]
  have : dg ((List.range (16 - p)).map fun i => dgl S (p + i)) i = dgl S (p + i) := by simp [dg, hi8]
  rw [this]; rfl
theorem of_low (S b : Nat) (W : World) (h : Lies16 W b S) : Calls Try.prog 45 #[.slice (some ⟨b, 0, none⟩) 8 16] W fun e w' => e = .returned (.agg #[.int .u64 (dgl (S) 0 : Nat), .int .u64 (dgl (S) 1 : Nat), .int .u64 (dgl (S) 2 : Nat), .int .u64 (dgl (S) 3 : Nat), .int .u64 (dgl (S) 4 : Nat), .int .u64 (dgl (S) 5 : Nat), .int .u64 (dgl (S) 6 : Nat), .int .u64 (dgl (S) 7 : Nat)]) ∧ Below W.heap.size W w' :=
  wideOf_any _ S _ W (rd_low h) (fun i hi => by simp [dg, hi])
theorem of_high (S b : Nat) (W : World) (h : Lies16 W b S) : Calls Try.prog 45 #[.slice (some ⟨b, 8, none⟩) 8 8] W fun e w' => e = .returned (.agg #[.int .u64 (dgl (S / QQ) 0 : Nat), .int .u64 (dgl (S / QQ) 1 : Nat), .int .u64 (dgl (S / QQ) 2 : Nat), .int .u64 (dgl (S / QQ) 3 : Nat), .int .u64 (dgl (S / QQ) 4 : Nat), .int .u64 (dgl (S / QQ) 5 : Nat), .int .u64 (dgl (S / QQ) 6 : Nat), .int .u64 (dgl (S / QQ) 7 : Nat)]) ∧ Below W.heap.size W w' :=
  wideOf_any _ (S / QQ) _ W (rd_part (p := 8) h (by omega)) (fun i hi => by rw [← dgl_high]; simp [dg, hi])

structure HalfSt (w : World) (S : Nat) (f1 f2 : Nat → Nat) (W : World) : Prop where
  lp : Lies16 W w.heap.size S
  l1 : LiesF W (w.heap.size + 1) f1
  f1 : ∀ i, W.frozen? ⟨w.heap.size + 1, i, none⟩ = false
  l2 : LiesF W (w.heap.size + 2) f2
  f2 : ∀ i, W.frozen? ⟨w.heap.size + 2, i, none⟩ = false
  bel : Below w.heap.size w W
theorem HalfSt.below {w : World} {S : Nat} {f1 f2 : Nat → Nat} {W W' : World} (h : HalfSt w S f1 f2 W) (hb : Below W.heap.size W W') : HalfSt w S f1 f2 W' :=
  ⟨h.lp.below hb, h.l1.below hb, fun i => (hb.frozen (p := ⟨w.heap.size + 1, i, none⟩) h.l1.2).trans (h.f1 i), h.l2.below hb, fun i => (hb.frozen (p := ⟨w.heap.size + 2, i, none⟩) h.l2.2).trans (h.f2 i), below_trans h.bel hb⟩
theorem lies_ne {W : World} {b B : Nat} {f : Nat → Nat} {x0 x1 x2 x3 x4 x5 x6 x7 : Value} (h : LiesF W b f) (hne : b ≠ B) : LiesF ((((((((W.setCell ⟨B, 0, none⟩ x0).setCell ⟨B, 1, none⟩ x1).setCell ⟨B, 2, none⟩ x2).setCell ⟨B, 3, none⟩ x3).setCell ⟨B, 4, none⟩ x4).setCell ⟨B, 5, none⟩ x5).setCell ⟨B, 6, none⟩ x6).setCell ⟨B, 7, none⟩ x7) b f := by
  refine ⟨fun i hi => ?_, by simpa using h.2⟩
  have := h.1 i hi
  simp [go_sem, this, hne]
theorem lies16_ne {W : World} {b B S : Nat} {x0 x1 x2 x3 x4 x5 x6 x7 : Value} (h : Lies16 W b S) (hne : b ≠ B) : Lies16 ((((((((W.setCell ⟨B, 0, none⟩ x0).setCell ⟨B, 1, none⟩ x1).setCell ⟨B, 2, none⟩ x2).setCell ⟨B, 3, none⟩ x3).setCell ⟨B, 4, none⟩ x4).setCell ⟨B, 5, none⟩ x5).setCell ⟨B, 6, none⟩ x6).setCell ⟨B, 7, none⟩ x7) b S := by
  refine ⟨fun i hi => ?_, by simpa using h.2⟩
  have := h.1 i hi
  simp [go_sem, this, hne]
theorem HalfSt.set1 {w : World} {S : Nat} {f1 f2 g : Nat → Nat} {W : World} (h : HalfSt w S f1 f2 W) : HalfSt w S g f2 ((((((((W.setCell ⟨w.heap.size + 1, 0, none⟩ (.int .u64 (g 0 : Nat))).setCell ⟨w.heap.size + 1, 1, none⟩ (.int .u64 (g 1 : Nat))).setCell ⟨w.heap.size + 1, 2, none⟩ (.int .u64 (g 2 : Nat))).setCell ⟨w.heap.size + 1, 3, none⟩ (.int .u64 (g 3 : Nat))).setCell ⟨w.heap.size + 1, 4, none⟩ (.int .u64 (g 4 : Nat))).setCell ⟨w.heap.size + 1, 5, none⟩ (.int .u64 (g 5 : Nat))).setCell ⟨w.heap.size + 1, 6, none⟩ (.int .u64 (g 6 : Nat))).setCell ⟨w.heap.size + 1, 7, none⟩ (.int .u64 (g 7 : Nat))) :=
  ⟨lies16_ne h.lp (by omega), set8_same W _ g f1 h.l1, fun i => by simpa [go_sem] using h.f1 i, lies_ne h.l2 (by omega), fun i => by simpa [go_sem] using h.f2 i, below_set8 h.bel _ (by omega) _ _ _ _ _ _ _ _⟩
theorem HalfSt.set2 {w : World} {S : Nat} {f1 f2 g : Nat → Nat} {W : World} (h : HalfSt w S f1 f2 W) : HalfSt w S f1 g ((((((((W.setCell ⟨w.heap.size + 2, 0, none⟩ (.int .u64 (g 0 : Nat))).setCell ⟨w.heap.size + 2, 1, none⟩ (.int .u64 (g 1 : Nat))).setCell ⟨w.heap.size + 2, 2, none⟩ (.int .u64 (g 2 : Nat))).setCell ⟨w.heap.size + 2, 3, none⟩ (.int .u64 (g 3 : Nat))).setCell ⟨w.heap.size + 2, 4, none⟩ (.int .u64 (g 4 : Nat))).setCell ⟨w.heap.size + 2, 5, none⟩ (.int .u64 (g 5 : Nat))).setCell ⟨w.heap.size + 2, 6, none⟩ (.int .u64 (g 6 : Nat))).setCell ⟨w.heap.size + 2, 7, none⟩ (.int .u64 (g 7 : Nat))) :=
  ⟨lies16_ne h.lp (by omega), lies_ne h.l1 (by omega), fun i => by simpa [go_sem] using h.f1 i, set8_same W _ g f2 h.l2, fun i => by simpa [go_sem] using h.f2 i, below_set8 h.bel _ (by omega) _ _ _ _ _ _ _ _⟩
theorem HalfSt.start (w : World) (S : Nat) : HalfSt w S (fun _ => 0) (fun _ => 0) (((w.alloc (.cells #[.int .u64 (dgl (S) 0 : Nat), .int .u64 (dgl (S) 1 : Nat), .int .u64 (dgl (S) 2 : Nat), .int .u64 (dgl (S) 3 : Nat), .int .u64 (dgl (S) 4 : Nat), .int .u64 (dgl (S) 5 : Nat), .int .u64 (dgl (S) 6 : Nat), .int .u64 (dgl (S) 7 : Nat), .int .u64 (dgl (S) 8 : Nat), .int .u64 (dgl (S) 9 : Nat), .int .u64 (dgl (S) 10 : Nat), .int .u64 (dgl (S) 11 : Nat), .int .u64 (dgl (S) 12 : Nat), .int .u64 (dgl (S) 13 : Nat), .int .u64 (dgl (S) 14 : Nat), .int .u64 (dgl (S) 15 : Nat)] 111)).alloc (.cells #[.int .u64 0, .int .u64 0, .int .u64 0, .int .u64 0, .int .u64 0, .int .u64 0, .int .u64 0, .int .u64 0] 24)).alloc (.cells #[.int .u64 0, .int .u64 0, .int .u64 0, .int .u64 0, .int .u64 0, .int .u64 0, .int .u64 0, .int .u64 0] 24)) := by
  have h1 := (liesF_new (w.alloc (.cells #[.int .u64 (dgl (S) 0 : Nat), .int .u64 (dgl (S) 1 : Nat), .int .u64 (dgl (S) 2 : Nat), .int .u64 (dgl (S) 3 : Nat), .int .u64 (dgl (S) 4 : Nat), .int .u64 (dgl (S) 5 : Nat), .int .u64 (dgl (S) 6 : Nat), .int .u64 (dgl (S) 7 : Nat), .int .u64 (dgl (S) 8 : Nat), .int .u64 (dgl (S) 9 : Nat), .int .u64 (dgl (S) 10 : Nat), .int .u64 (dgl (S) 11 : Nat), .int .u64 (dgl (S) 12 : Nat), .int .u64 (dgl (S) 13 : Nat), .int .u64 (dgl (S) 14 : Nat), .int .u64 (dgl (S) 15 : Nat)] 111)) (fun _ => 0) 24).alloc (.cells #[.int .u64 0, .int .u64 0, .int .u64 0, .int .u64 0, .int .u64 0, .int .u64 0, .int .u64 0, .int .u64 0] 24)
  have h2 := liesF_new ((w.alloc (.cells #[.int .u64 (dgl (S) 0 : Nat), .int .u64 (dgl (S) 1 : Nat), .int .u64 (dgl (S) 2 : Nat), .int .u64 (dgl (S) 3 : Nat), .int .u64 (dgl (S) 4 : Nat), .int .u64 (dgl (S) 5 : Nat), .int .u64 (dgl (S) 6 : Nat), .int .u64 (dgl (S) 7 : Nat), .int .u64 (dgl (S) 8 : Nat), .int .u64 (dgl (S) 9 : Nat), .int .u64 (dgl (S) 10 : Nat), .int .u64 (dgl (S) 11 : Nat), .int .u64 (dgl (S) 12 : Nat), .int .u64 (dgl (S) 13 : Nat), .int .u64 (dgl (S) 14 : Nat), .int .u64 (dgl (S) 15 : Nat)] 111)).alloc (.cells #[.int .u64 0, .int .u64 0, .int .u64 0, .int .u64 0, .int .u64 0, .int .u64 0, .int .u64 0, .int .u64 0] 24)) (fun _ => 0) 24
  simp only [World.size_alloc] at h1 h2
  exact ⟨((lies16_new w S 111).below (below_allocs _ _)).below (below_allocs _ _), h1, fun i => by simp [go_sem], h2, fun i => by simp [go_sem], below_trans (below_trans (below_allocs _ _) (below_allocs _ _)) (below_allocs _ _)⟩

set_option maxHeartbeats 2000000 in
theorem halves_any (S : Nat) (w : World) :
    Calls Try.prog 77 #[.agg #[.int .u64 (dgl (S) 0 : Nat), .int .u64 (dgl (S) 1 : Nat), .int .u64 (dgl (S) 2 : Nat), .int .u64 (dgl (S) 3 : Nat), .int .u64 (dgl (S) 4 : Nat), .int .u64 (dgl (S) 5 : Nat), .int .u64 (dgl (S) 6 : Nat), .int .u64 (dgl (S) 7 : Nat), .int .u64 (dgl (S) 8 : Nat), .int .u64 (dgl (S) 9 : Nat), .int .u64 (dgl (S) 10 : Nat), .int .u64 (dgl (S) 11 : Nat), .int .u64 (dgl (S) 12 : Nat), .int .u64 (dgl (S) 13 : Nat), .int .u64 (dgl (S) 14 : Nat), .int .u64 (dgl (S) 15 : Nat)]] w fun e w' => e = .returned (.tuple #[.agg #[.int .u64 (dgl (S) 0 : Nat), .int .u64 (dgl (S) 1 : Nat), .int .u64 (dgl (S) 2 : Nat), .int .u64 (dgl (S) 3 : Nat), .int .u64 (dgl (S) 4 : Nat), .int .u64 (dgl (S) 5 : Nat), .int .u64 (dgl (S) 6 : Nat), .int .u64 (dgl (S) 7 : Nat)], .agg #[.int .u64 (dgl (S / QQ) 0 : Nat), .int .u64 (dgl (S / QQ) 1 : Nat), .int .u64 (dgl (S / QQ) 2 : Nat), .int .u64 (dgl (S / QQ) 3 : Nat), .int .u64 (dgl (S / QQ) 4 : Nat), .int .u64 (dgl (S / QQ) 5 : Nat), .int .u64 (dgl (S / QQ) 6 : Nat), .int .u64 (dgl (S / QQ) 7 : Nat)]]) ∧ Below w.heap.size w w' := by
  have HST := hide (HalfSt.start w S)
  go_enter Try.func77, Try.ntmps77
  go_upto_region 1 with fail
  refine wp_gen (fun W => HalfSt w S (fun _ => 0) (fun _ => 0) W) HST.out ?_
  rintro W1 h1
  clear HST
  refine wp_region_store 6 [4, 5] [(4, .slice (some ⟨w.heap.size, 0, none⟩) 8 16), (5, .agg #[.int .u64 (dgl (S) 0 : Nat), .int .u64 (dgl (S) 1 : Nat), .int .u64 (dgl (S) 2 : Nat), .int .u64 (dgl (S) 3 : Nat), .int .u64 (dgl (S) 4 : Nat), .int .u64 (dgl (S) 5 : Nat), .int .u64 (dgl (S) 6 : Nat), .int .u64 (dgl (S) 7 : Nat)]), (6, .slice (some ⟨w.heap.size, 8, none⟩) 8 8), (7, .agg #[.int .u64 (dgl (S / QQ) 0 : Nat), .int .u64 (dgl (S / QQ) 1 : Nat), .int .u64 (dgl (S / QQ) 2 : Nat), .int .u64 (dgl (S / QQ) 3 : Nat), .int .u64 (dgl (S / QQ) 4 : Nat), .int .u64 (dgl (S / QQ) 5 : Nat), .int .u64 (dgl (S / QQ) 6 : Nat), .int .u64 (dgl (S / QQ) 7 : Nat)])]
    (fun bs W => HalfSt w S (bif bs.headD false then dgl S else fun _ => 0) (bif bs.tail.headD false then dgl (S / QQ) else fun _ => 0) W) mixedOk (by kernel_rfl) (by kernel_rfl) (by kernel_rfl) (h1.below (Below.refl _ _).drew) (fun bs W W' h hb => h.below hb) ?_ ?_
  · refine sSt rfl (fun bs => gStep_run rfl ?_) ?_
    · intro ρ W hC hc hf hL
      have e1 : ρ (.tmp 1) = .pointer (some ⟨w.heap.size, 0, none⟩) := hL 1 (by decide +kernel)
      have hl := hC.lp.2
      simp [go_sem, hc, hf, e1, hl]
      exact ⟨Below.refl _ _, rfl⟩
    refine sSt rfl (fun bs => gStep_run rfl ?_) ?_
    · intro ρ W hC hc hf hL
      have e4 : ρ (.tmp 4) = .slice (some ⟨w.heap.size, 0, none⟩) 8 16 := hL 4 (by decide +kernel)
      simp [go_sem, hc, hf, e4]
      refine (of_low S _ _ hC.lp).mono ?_
      rintro e w' ⟨rfl, hb⟩
      exact ⟨_, rfl, by first | exact hb | (subst hb; exact Below.refl _ _), rfl⟩
    refine sSt rfl (fun bs => gStep_run rfl ?_) ?_
    · intro ρ W hC hc hf hL
      have e1 : ρ (.tmp 1) = .pointer (some ⟨w.heap.size, 0, none⟩) := hL 1 (by decide +kernel)
      have hl := hC.lp.2
      simp [go_sem, hc, hf, e1, hl]
      exact ⟨Below.refl _ _, rfl⟩
    refine sSt rfl (fun bs => gStep_run rfl ?_) ?_
    · intro ρ W hC hc hf hL
      have e6 : ρ (.tmp 6) = .slice (some ⟨w.heap.size, 8, none⟩) 8 8 := hL 6 (by decide +kernel)
      simp [go_sem, hc, hf, e6]
      refine (of_high S _ _ hC.lp).mono ?_
      rintro e w' ⟨rfl, hb⟩
      exact ⟨_, rfl, by first | exact hb | (subst hb; exact Below.refl _ _), rfl⟩
    refine sStS rfl ⟨rfl, rfl, ?_⟩ ?_
    · intro φ ρ W hφ hC hc hL
      have e2 : ρ (.tmp 2) = .pointer (some ⟨w.heap.size + 1, 0, none⟩) := hL 2 (by decide +kernel)
      have e5 : ρ (.tmp 5) = .agg #[.int .u64 (dgl (S) 0 : Nat), .int .u64 (dgl (S) 1 : Nat), .int .u64 (dgl (S) 2 : Nat), .int .u64 (dgl (S) 3 : Nat), .int .u64 (dgl (S) 4 : Nat), .int .u64 (dgl (S) 5 : Nat), .int .u64 (dgl (S) 6 : Nat), .int .u64 (dgl (S) 7 : Nat)] := hL 5 (by decide +kernel)
      change HalfSt w S (bif φ 4 then dgl S else fun _ => 0) (bif φ 5 then dgl (S / QQ) else fun _ => 0) W at hC
      rw [hφ] at hC
      have hz := hC.l1.1
      have hzl := hC.l1.2
      have hzf := hC.f1
      simp only [cond_false] at hz
      simp [go_sem, hc, e2, e5, hz, hzf, hzl]
      change HalfSt w S (dgl S) (bif (φ 5 || false) then dgl (S / QQ) else fun _ => 0) _
      rw [Bool.or_false]
      exact hC.set1
    refine sStS rfl ⟨rfl, rfl, ?_⟩ ?_
    · intro φ ρ W hφ hC hc hL
      have e3 : ρ (.tmp 3) = .pointer (some ⟨w.heap.size + 2, 0, none⟩) := hL 3 (by decide +kernel)
      have e7 : ρ (.tmp 7) = .agg #[.int .u64 (dgl (S / QQ) 0 : Nat), .int .u64 (dgl (S / QQ) 1 : Nat), .int .u64 (dgl (S / QQ) 2 : Nat), .int .u64 (dgl (S / QQ) 3 : Nat), .int .u64 (dgl (S / QQ) 4 : Nat), .int .u64 (dgl (S / QQ) 5 : Nat), .int .u64 (dgl (S / QQ) 6 : Nat), .int .u64 (dgl (S / QQ) 7 : Nat)] := hL 7 (by decide +kernel)
      change HalfSt w S (bif φ 4 then dgl S else fun _ => 0) (bif φ 5 then dgl (S / QQ) else fun _ => 0) W at hC
      rw [hφ] at hC
      have hz := hC.l2.1
      have hzl := hC.l2.2
      have hzf := hC.f2
      simp only [cond_false] at hz
      simp [go_sem, hc, e3, e7, hz, hzf, hzl]
      change HalfSt w S (bif (φ 4 || false) then dgl S else fun _ => 0) (dgl (S / QQ)) _
      rw [Bool.or_false]
      exact hC.set2
    exact sSt0
  · intro W hC
    refine gFi 4 rfl ?_
    rintro _ rfl
    refine gFi 5 rfl ?_
    rintro _ rfl
    refine gFi 6 rfl ?_
    rintro _ rfl
    refine gFi 7 rfl ?_
    rintro _ rfl
    refine gFiN rfl ?_
    refine gFiN rfl ?_
    refine gFi0 ?_
    simp only [List.drop_succ_cons, List.drop_zero, Act.put, List.setIfInBounds_toArray, List.set_cons_succ, List.set_cons_zero]
    have hr1 := hC.l1.1
    have hr2 := hC.l2.1
    have HB := hide hC.bel
    clear hC h1
    change ∀ i, i < 8 → W.cell? ⟨w.heap.size + 1, i, none⟩ = some (.int .u64 (dgl S i : Nat)) at hr1
    change ∀ i, i < 8 → W.cell? ⟨w.heap.size + 2, i, none⟩ = some (.int .u64 (dgl (S / QQ) i : Nat)) at hr2
    go_wp2
    exact bodyPost_ret (v := .tuple #[.agg #[.int .u64 (dgl (S) 0 : Nat), .int .u64 (dgl (S) 1 : Nat), .int .u64 (dgl (S) 2 : Nat), .int .u64 (dgl (S) 3 : Nat), .int .u64 (dgl (S) 4 : Nat), .int .u64 (dgl (S) 5 : Nat), .int .u64 (dgl (S) 6 : Nat), .int .u64 (dgl (S) 7 : Nat)], .agg #[.int .u64 (dgl (S / QQ) 0 : Nat), .int .u64 (dgl (S / QQ) 1 : Nat), .int .u64 (dgl (S / QQ) 2 : Nat), .int .u64 (dgl (S / QQ) 3 : Nat), .int .u64 (dgl (S / QQ) 4 : Nat), .int .u64 (dgl (S / QQ) 5 : Nat), .int .u64 (dgl (S / QQ) 6 : Nat), .int .u64 (dgl (S / QQ) 7 : Nat)]]) (by simp [results, Try.results77, go_sem, hr1, hr2]) rfl ⟨rfl, HB.out⟩

theorem all_any (p : Nat) (w : World) : Calls Try.prog 79 #[.int .i64 (p : Nat)] w fun e w' => e = .returned (.bool true) ∧ w' = w := by
  go_enter Try.func79, Try.ntmps79
  go_wp2
  go_ret
  exact ⟨rfl, rfl⟩

theorem summed_all (a b : Nat) (ha : a < QQ) (hb : b < QQ) (w : World) :
    Calls Try.prog 78 #[.agg #[.int .u64 (dgl (a) 0 : Nat), .int .u64 (dgl (a) 1 : Nat), .int .u64 (dgl (a) 2 : Nat), .int .u64 (dgl (a) 3 : Nat), .int .u64 (dgl (a) 4 : Nat), .int .u64 (dgl (a) 5 : Nat), .int .u64 (dgl (a) 6 : Nat), .int .u64 (dgl (a) 7 : Nat)], .agg #[.int .u64 (dgl (b) 0 : Nat), .int .u64 (dgl (b) 1 : Nat), .int .u64 (dgl (b) 2 : Nat), .int .u64 (dgl (b) 3 : Nat), .int .u64 (dgl (b) 4 : Nat), .int .u64 (dgl (b) 5 : Nat), .int .u64 (dgl (b) 6 : Nat), .int .u64 (dgl (b) 7 : Nat)], .func (.func 79) #[] #[]] w fun e w' => e = .returned (.agg #[.int .u64 (dgl (a * b) 0 : Nat), .int .u64 (dgl (a * b) 1 : Nat), .int .u64 (dgl (a * b) 2 : Nat), .int .u64 (dgl (a * b) 3 : Nat), .int .u64 (dgl (a * b) 4 : Nat), .int .u64 (dgl (a * b) 5 : Nat), .int .u64 (dgl (a * b) 6 : Nat), .int .u64 (dgl (a * b) 7 : Nat), .int .u64 (dgl (a * b) 8 : Nat), .int .u64 (dgl (a * b) 9 : Nat), .int .u64 (dgl (a * b) 10 : Nat), .int .u64 (dgl (a * b) 11 : Nat), .int .u64 (dgl (a * b) 12 : Nat), .int .u64 (dgl (a * b) 13 : Nat), .int .u64 (dgl (a * b) 14 : Nat), .int .u64 (dgl (a * b) 15 : Nat)]) ∧ Below w.heap.size w w' := by
  have h := summed_any 79 #[] (fun _ => true) a b w (enters_of Try.func79 (by kernel_rfl) rfl) (fun p wr hp hb => all_any p wr)
  rw [all_mul a b ha hb] at h
  exact h

end Go.Proofs.Ytjklehlkgccmnaa

/- Contracts: prod.Mul, Square, Small. -/
set_option linter.unusedVariables false
set_option linter.unusedSimpArgs false
set_option maxRecDepth 8000
namespace Go.Proofs.Ytjklehlkgccmnaa
open Go.RowKit Plain

/-- The result's block, and that nothing below has changed. -/
structure ResSt (w : World) (r : Nat) (f : Nat → Nat) (W : World) : Prop where
  lr : LiesF W r f
  fr : ∀ i, W.frozen? ⟨r, i, none⟩ = false
  bel : Below w.heap.size w W
theorem ResSt.below {w : World} {r : Nat} {f : Nat → Nat} {W W' : World} (h : ResSt w r f W) (hb : Below W.heap.size W W') : ResSt w r f W' :=
  ⟨h.lr.below hb, fun i => (hb.frozen (p := ⟨r, i, none⟩) h.lr.2).trans (h.fr i), below_trans h.bel hb⟩
theorem ResSt.set8 {w : World} {r : Nat} {f g : Nat → Nat} {W : World} (h : ResSt w r f W) (hr : w.heap.size ≤ r) : ResSt w r g ((((((((W.setCell ⟨r, 0, none⟩ (.int .u64 (g 0 : Nat))).setCell ⟨r, 1, none⟩ (.int .u64 (g 1 : Nat))).setCell ⟨r, 2, none⟩ (.int .u64 (g 2 : Nat))).setCell ⟨r, 3, none⟩ (.int .u64 (g 3 : Nat))).setCell ⟨r, 4, none⟩ (.int .u64 (g 4 : Nat))).setCell ⟨r, 5, none⟩ (.int .u64 (g 5 : Nat))).setCell ⟨r, 6, none⟩ (.int .u64 (g 6 : Nat))).setCell ⟨r, 7, none⟩ (.int .u64 (g 7 : Nat))) :=
  ⟨set8_same W r g f h.lr, fun i => by simpa [go_sem] using h.fr i, below_set8 h.bel _ hr _ _ _ _ _ _ _ _⟩

set_option maxHeartbeats 2000000 in
theorem prodMul_walk (fa fb fl fh : Nat → Nat) (S : Nat) (t : Bool) (w : World)
    (HSUM : Hid (∀ w, Calls Try.prog 78 #[.agg #[.int .u64 (fa 0 : Nat), .int .u64 (fa 1 : Nat), .int .u64 (fa 2 : Nat), .int .u64 (fa 3 : Nat), .int .u64 (fa 4 : Nat), .int .u64 (fa 5 : Nat), .int .u64 (fa 6 : Nat), .int .u64 (fa 7 : Nat)], .agg #[.int .u64 (fb 0 : Nat), .int .u64 (fb 1 : Nat), .int .u64 (fb 2 : Nat), .int .u64 (fb 3 : Nat), .int .u64 (fb 4 : Nat), .int .u64 (fb 5 : Nat), .int .u64 (fb 6 : Nat), .int .u64 (fb 7 : Nat)], .func (.func 79) #[] #[]] w fun e w' => e = .returned (.agg #[.int .u64 (dgl (S) 0 : Nat), .int .u64 (dgl (S) 1 : Nat), .int .u64 (dgl (S) 2 : Nat), .int .u64 (dgl (S) 3 : Nat), .int .u64 (dgl (S) 4 : Nat), .int .u64 (dgl (S) 5 : Nat), .int .u64 (dgl (S) 6 : Nat), .int .u64 (dgl (S) 7 : Nat), .int .u64 (dgl (S) 8 : Nat), .int .u64 (dgl (S) 9 : Nat), .int .u64 (dgl (S) 10 : Nat), .int .u64 (dgl (S) 11 : Nat), .int .u64 (dgl (S) 12 : Nat), .int .u64 (dgl (S) 13 : Nat), .int .u64 (dgl (S) 14 : Nat), .int .u64 (dgl (S) 15 : Nat)]) ∧ Below w.heap.size w w'))
    (HHAL : Hid (∀ w, Calls Try.prog 77 #[.agg #[.int .u64 (dgl (S) 0 : Nat), .int .u64 (dgl (S) 1 : Nat), .int .u64 (dgl (S) 2 : Nat), .int .u64 (dgl (S) 3 : Nat), .int .u64 (dgl (S) 4 : Nat), .int .u64 (dgl (S) 5 : Nat), .int .u64 (dgl (S) 6 : Nat), .int .u64 (dgl (S) 7 : Nat), .int .u64 (dgl (S) 8 : Nat), .int .u64 (dgl (S) 9 : Nat), .int .u64 (dgl (S) 10 : Nat), .int .u64 (dgl (S) 11 : Nat), .int .u64 (dgl (S) 12 : Nat), .int .u64 (dgl (S) 13 : Nat), .int .u64 (dgl (S) 14 : Nat), .int .u64 (dgl (S) 15 : Nat)]] w fun e w' => e = .returned (.tuple #[.agg #[.int .u64 (fl 0 : Nat), .int .u64 (fl 1 : Nat), .int .u64 (fl 2 : Nat), .int .u64 (fl 3 : Nat), .int .u64 (fl 4 : Nat), .int .u64 (fl 5 : Nat), .int .u64 (fl 6 : Nat), .int .u64 (fl 7 : Nat)], .agg #[.int .u64 (fh 0 : Nat), .int .u64 (fh 1 : Nat), .int .u64 (fh 2 : Nat), .int .u64 (fh 3 : Nat), .int .u64 (fh 4 : Nat), .int .u64 (fh 5 : Nat), .int .u64 (fh 6 : Nat), .int .u64 (fh 7 : Nat)]]) ∧ Below w.heap.size w w'))
    (heq : ∀ w, (Op.equalIn 10000 24 (.agg #[.int .u64 (fh 0 : Nat), .int .u64 (fh 1 : Nat), .int .u64 (fh 2 : Nat), .int .u64 (fh 3 : Nat), .int .u64 (fh 4 : Nat), .int .u64 (fh 5 : Nat), .int .u64 (fh 6 : Nat), .int .u64 (fh 7 : Nat)]) (.agg #[.int .u64 0, .int .u64 0, .int .u64 0, .int .u64 0, .int .u64 0, .int .u64 0, .int .u64 0, .int .u64 0])).run Try.prog w = .ok t w) :
    Calls Try.prog 68 #[.agg #[.int .u64 (fa 0 : Nat), .int .u64 (fa 1 : Nat), .int .u64 (fa 2 : Nat), .int .u64 (fa 3 : Nat), .int .u64 (fa 4 : Nat), .int .u64 (fa 5 : Nat), .int .u64 (fa 6 : Nat), .int .u64 (fa 7 : Nat)], .agg #[.int .u64 (fb 0 : Nat), .int .u64 (fb 1 : Nat), .int .u64 (fb 2 : Nat), .int .u64 (fb 3 : Nat), .int .u64 (fb 4 : Nat), .int .u64 (fb 5 : Nat), .int .u64 (fb 6 : Nat), .int .u64 (fb 7 : Nat)]] w fun e w' => e = .returned (.tuple #[.agg #[.int .u64 (fl 0 : Nat), .int .u64 (fl 1 : Nat), .int .u64 (fl 2 : Nat), .int .u64 (fl 3 : Nat), .int .u64 (fl 4 : Nat), .int .u64 (fl 5 : Nat), .int .u64 (fl 6 : Nat), .int .u64 (fl 7 : Nat)], .bool t]) ∧ Below w.heap.size w w' := by
  have HS0 : Hid (ResSt w (w.heap.size + 1 + 1) (fun _ => 0) (((w.alloc (.cells #[.int .u64 (fa 0 : Nat), .int .u64 (fa 1 : Nat), .int .u64 (fa 2 : Nat), .int .u64 (fa 3 : Nat), .int .u64 (fa 4 : Nat), .int .u64 (fa 5 : Nat), .int .u64 (fa 6 : Nat), .int .u64 (fa 7 : Nat)] 24)).alloc (.cells #[.int .u64 (fb 0 : Nat), .int .u64 (fb 1 : Nat), .int .u64 (fb 2 : Nat), .int .u64 (fb 3 : Nat), .int .u64 (fb 4 : Nat), .int .u64 (fb 5 : Nat), .int .u64 (fb 6 : Nat), .int .u64 (fb 7 : Nat)] 24)).alloc (.cells #[.int .u64 0, .int .u64 0, .int .u64 0, .int .u64 0, .int .u64 0, .int .u64 0, .int .u64 0, .int .u64 0] 24))) := by
    have h2 := liesF_new ((w.alloc (.cells #[.int .u64 (fa 0 : Nat), .int .u64 (fa 1 : Nat), .int .u64 (fa 2 : Nat), .int .u64 (fa 3 : Nat), .int .u64 (fa 4 : Nat), .int .u64 (fa 5 : Nat), .int .u64 (fa 6 : Nat), .int .u64 (fa 7 : Nat)] 24)).alloc (.cells #[.int .u64 (fb 0 : Nat), .int .u64 (fb 1 : Nat), .int .u64 (fb 2 : Nat), .int .u64 (fb 3 : Nat), .int .u64 (fb 4 : Nat), .int .u64 (fb 5 : Nat), .int .u64 (fb 6 : Nat), .int .u64 (fb 7 : Nat)] 24)) (fun _ => 0) 24
    simp only [World.size_alloc] at h2
    exact ⟨h2, fun i => by simp [go_sem], below_trans (below_trans (below_allocs _ _) (below_allocs _ _)) (below_allocs _ _)⟩
  go_enter Try.func68, Try.ntmps68
  go_wp2_with fail
  refine (HSUM.out _).mono ?_
  rintro e w1 ⟨rfl, hb1⟩
  have HS1 := hide (HS0.out.below hb1)
  clear HS0 hb1
  go_wp2_with fail
  refine (HHAL.out _).mono ?_
  rintro e w2 ⟨rfl, hb2⟩
  have HS2 := hide (HS1.out.below hb2)
  clear HS1 hb2
  go_upto_region 2 with fail
  refine wp_gen (fun W => ResSt w (w.heap.size + 1 + 1) (fun _ => 0) W ∧ LiesF W w2.heap.size fl ∧ LiesF W (w2.heap.size + 1) fh) ?_ ?_
  · have h3 := liesF_new (w2.alloc (.cells #[.int .u64 (fl 0 : Nat), .int .u64 (fl 1 : Nat), .int .u64 (fl 2 : Nat), .int .u64 (fl 3 : Nat), .int .u64 (fl 4 : Nat), .int .u64 (fl 5 : Nat), .int .u64 (fl 6 : Nat), .int .u64 (fl 7 : Nat)] 24)) fh 24
    rw [World.size_alloc] at h3
    exact ⟨(HS2.out.below (below_allocs _ _)).below (below_allocs _ _), (liesF_new w2 fl 24).alloc _, h3⟩
  rintro W2 h2
  have hp6 : w.heap.size + 1 + 1 < w2.heap.size := HS2.out.lr.2
  generalize hp : w2.heap.size = p6 at *
  obtain ⟨p7, hp7⟩ : ∃ p7, p6 + 1 = p7 := ⟨_, rfl⟩
  rw [hp7] at h2 ⊢
  clear HS2 hp
  refine wp_region_store 5 [4] [(15, .agg #[.int .u64 (fl 0 : Nat), .int .u64 (fl 1 : Nat), .int .u64 (fl 2 : Nat), .int .u64 (fl 3 : Nat), .int .u64 (fl 4 : Nat), .int .u64 (fl 5 : Nat), .int .u64 (fl 6 : Nat), .int .u64 (fl 7 : Nat)]), (16, .agg #[.int .u64 (fh 0 : Nat), .int .u64 (fh 1 : Nat), .int .u64 (fh 2 : Nat), .int .u64 (fh 3 : Nat), .int .u64 (fh 4 : Nat), .int .u64 (fh 5 : Nat), .int .u64 (fh 6 : Nat), .int .u64 (fh 7 : Nat)]), (17, .agg #[.int .u64 0, .int .u64 0, .int .u64 0, .int .u64 0, .int .u64 0, .int .u64 0, .int .u64 0, .int .u64 0]), (18, .bool t)]
    (fun bs W => ResSt w (w.heap.size + 1 + 1) (bif bs.headD false then fl else fun _ => 0) W ∧ LiesF W p6 fl ∧ LiesF W p7 fh) mixedOk (by kernel_rfl) (by kernel_rfl) (by kernel_rfl) (⟨h2.1.below (Below.refl _ _).drew, h2.2.1, h2.2.2⟩) (fun bs W W' h hb => ⟨h.1.below hb, h.2.1.below hb, h.2.2.below hb⟩) ?_ ?_
  · refine sSt rfl (fun bs => gStep_run rfl ?_) ?_
    · intro ρ W hC hc hf hL
      have e6 : ρ (.tmp 6) = .pointer (some ⟨p6, 0, none⟩) := hL 6 (by decide +kernel)
      have hl := hC.2.1.1
      simp [go_sem, hc, hf, e6, hl]
      exact ⟨Below.refl _ _, rfl⟩
    refine sSt rfl (fun bs => gStep_run rfl ?_) ?_
    · intro ρ W hC hc hf hL
      have e7 : ρ (.tmp 7) = .pointer (some ⟨p7, 0, none⟩) := hL 7 (by decide +kernel)
      have hl := hC.2.2.1
      simp [go_sem, hc, hf, e7, hl]
      exact ⟨Below.refl _ _, rfl⟩
    refine sSt rfl (fun bs => gStep_run rfl ?_) ?_
    · intro ρ W hC hc hf hL
      simp [go_sem, hc, hf]
      exact ⟨Below.refl _ _, rfl⟩
    refine sSt rfl (fun bs => gStep_run rfl ?_) ?_
    · intro ρ W hC hc hf hL
      have e16 : ρ (.tmp 16) = .agg #[.int .u64 (fh 0 : Nat), .int .u64 (fh 1 : Nat), .int .u64 (fh 2 : Nat), .int .u64 (fh 3 : Nat), .int .u64 (fh 4 : Nat), .int .u64 (fh 5 : Nat), .int .u64 (fh 6 : Nat), .int .u64 (fh 7 : Nat)] := hL 16 (by decide +kernel)
      have e17 : ρ (.tmp 17) = .agg #[.int .u64 0, .int .u64 0, .int .u64 0, .int .u64 0, .int .u64 0, .int .u64 0, .int .u64 0, .int .u64 0] := hL 17 (by decide +kernel)
      simp [go_sem, hc, hf, e16, e17, heq]
      exact ⟨Below.refl _ _, rfl⟩
    refine sStS rfl ⟨rfl, rfl, ?_⟩ ?_
    · intro φ ρ W hφ hC hc hL
      have e4 : ρ (.tmp 4) = .pointer (some ⟨w.heap.size + 1 + 1, 0, none⟩) := hL 4 (by decide +kernel)
      have e15 : ρ (.tmp 15) = .agg #[.int .u64 (fl 0 : Nat), .int .u64 (fl 1 : Nat), .int .u64 (fl 2 : Nat), .int .u64 (fl 3 : Nat), .int .u64 (fl 4 : Nat), .int .u64 (fl 5 : Nat), .int .u64 (fl 6 : Nat), .int .u64 (fl 7 : Nat)] := hL 15 (by decide +kernel)
      simp only [List.map_cons, List.map_nil, List.headD_cons, hφ, cond_false] at hC
      have hz := hC.1.lr.1
      have hzl := hC.1.lr.2
      have hzf := hC.1.fr
      simp [go_sem, hc, e4, e15, hz, hzf, hzl]
      exact ⟨hC.1.set8 (by omega), lies_ne hC.2.1 (by omega), lies_ne hC.2.2 (by omega)⟩
    exact sSt0
  · intro W hC
    refine gFi 15 rfl ?_
    rintro _ rfl
    refine gFi 16 rfl ?_
    rintro _ rfl
    refine gFi 17 rfl ?_
    rintro _ rfl
    refine gFi 18 rfl ?_
    rintro _ rfl
    refine gFiN rfl ?_
    refine gFi0 ?_
    simp only [List.drop_succ_cons, List.drop_zero, Act.put, List.setIfInBounds_toArray, List.set_cons_succ, List.set_cons_zero]
    have hr := hC.1.lr.1
    have HB := hide hC.1.bel
    clear hC h2
    change ∀ i, i < 8 → W.cell? ⟨w.heap.size + 1 + 1, i, none⟩ = some (.int .u64 (fl i : Nat)) at hr
    go_wp2
    exact bodyPost_ret (v := .tuple #[.agg #[.int .u64 (fl 0 : Nat), .int .u64 (fl 1 : Nat), .int .u64 (fl 2 : Nat), .int .u64 (fl 3 : Nat), .int .u64 (fl 4 : Nat), .int .u64 (fl 5 : Nat), .int .u64 (fl 6 : Nat), .int .u64 (fl 7 : Nat)], .bool t]) (by simp [results, Try.results68, go_sem, hr]) rfl ⟨rfl, HB.out⟩

theorem dgl_z : (dgl 0) = fun _ => 0 := funext dgl_zero
theorem wide_eqz {a : Nat} (ha : a < QQ) (w : World) : (Op.equalIn 10000 24 (.agg #[.int .u64 (dgl (a) 0 : Nat), .int .u64 (dgl (a) 1 : Nat), .int .u64 (dgl (a) 2 : Nat), .int .u64 (dgl (a) 3 : Nat), .int .u64 (dgl (a) 4 : Nat), .int .u64 (dgl (a) 5 : Nat), .int .u64 (dgl (a) 6 : Nat), .int .u64 (dgl (a) 7 : Nat)]) (.agg #[.int .u64 0, .int .u64 0, .int .u64 0, .int .u64 0, .int .u64 0, .int .u64 0, .int .u64 0, .int .u64 0])).run Try.prog w = .ok (decide (a = 0)) w := by
  have h := wide_eqb ha (show 0 < QQ by omega) w
  simp only [dgl_zero] at h
  exact h
theorem qq_mul_lt {a b : Nat} (ha : a < QQ) (hb : b < QQ) : a * b / QQ < QQ := by
  have h : a * b < QQ * QQ := Nat.mul_lt_mul_of_lt_of_lt ha hb
  exact Nat.div_lt_of_lt_mul h
theorem prodMul_any (a b : Nat) (ha : a < QQ) (hb : b < QQ) (w : World) :
    Calls Try.prog 68 #[.agg #[.int .u64 (dgl (a) 0 : Nat), .int .u64 (dgl (a) 1 : Nat), .int .u64 (dgl (a) 2 : Nat), .int .u64 (dgl (a) 3 : Nat), .int .u64 (dgl (a) 4 : Nat), .int .u64 (dgl (a) 5 : Nat), .int .u64 (dgl (a) 6 : Nat), .int .u64 (dgl (a) 7 : Nat)], .agg #[.int .u64 (dgl (b) 0 : Nat), .int .u64 (dgl (b) 1 : Nat), .int .u64 (dgl (b) 2 : Nat), .int .u64 (dgl (b) 3 : Nat), .int .u64 (dgl (b) 4 : Nat), .int .u64 (dgl (b) 5 : Nat), .int .u64 (dgl (b) 6 : Nat), .int .u64 (dgl (b) 7 : Nat)]] w fun e w' => e = .returned (.tuple #[.agg #[.int .u64 (dgl (a * b) 0 : Nat), .int .u64 (dgl (a * b) 1 : Nat), .int .u64 (dgl (a * b) 2 : Nat), .int .u64 (dgl (a * b) 3 : Nat), .int .u64 (dgl (a * b) 4 : Nat), .int .u64 (dgl (a * b) 5 : Nat), .int .u64 (dgl (a * b) 6 : Nat), .int .u64 (dgl (a * b) 7 : Nat)], .bool (decide (a * b < QQ))]) ∧ Below w.heap.size w w' := by
  have hq : decide (a * b / QQ = 0) = decide (a * b < QQ) := by
    rw [decide_eq_decide]
    exact Nat.div_eq_zero_iff_lt (by omega)
  rw [← hq]
  exact prodMul_walk (dgl a) (dgl b) (dgl (a * b)) (dgl (a * b / QQ)) (a * b) _ w (fun w => summed_all a b ha hb w) (fun w => halves_any (a * b) w) (fun w => wide_eqz (qq_mul_lt ha hb) w)

end Go.Proofs.Ytjklehlkgccmnaa

/- Contracts: prod.Square, Small, Sum. -/
set_option linter.unusedVariables false
set_option linter.unusedSimpArgs false
set_option maxRecDepth 8000
namespace Go.Proofs.Ytjklehlkgccmnaa
open Go.RowKit Plain

def SlotIs.rd (l : List Nat) : SlotIs := ⟨fun v w => Rd mk64 w v l, fun v w w' hb h => h.below hb⟩

theorem ll_lt_qq {n : Nat} (h : n < 18446744073709551616) : n < QQ := Nat.lt_of_lt_of_le h (by unfold QQ; exact Nat.le_self_pow (by decide) _)

set_option maxHeartbeats 1000000 in
theorem prodSmall_any (a n : Nat) (ha : a < QQ) (hn : n < 18446744073709551616) (w : World) :
    Calls Try.prog 55 #[.agg #[.int .u64 (dgl (a) 0 : Nat), .int .u64 (dgl (a) 1 : Nat), .int .u64 (dgl (a) 2 : Nat), .int .u64 (dgl (a) 3 : Nat), .int .u64 (dgl (a) 4 : Nat), .int .u64 (dgl (a) 5 : Nat), .int .u64 (dgl (a) 6 : Nat), .int .u64 (dgl (a) 7 : Nat)], .int .u64 (n : Nat)] w fun e w' => e = .returned (.tuple #[.agg #[.int .u64 (dgl (n * a) 0 : Nat), .int .u64 (dgl (n * a) 1 : Nat), .int .u64 (dgl (n * a) 2 : Nat), .int .u64 (dgl (n * a) 3 : Nat), .int .u64 (dgl (n * a) 4 : Nat), .int .u64 (dgl (n * a) 5 : Nat), .int .u64 (dgl (n * a) 6 : Nat), .int .u64 (dgl (n * a) 7 : Nat)], .bool (decide (n * a < QQ))]) ∧ Below w.heap.size w w' := by
  have HM := hide (fun w => prodMul_any n a (ll_lt_qq hn) ha w)
  have HD : Hid (∀ i, i < 8 → dg [n] i = dgl n i) := fun i hi => (dig_one (β := 18446744073709551616) hn).2 i
  generalize decide (n * a < QQ) = t at *
  have HST := hide (shrSt_start (dgl a) w)
  clear ha hn
  go_enter Try.func55, Try.ntmps55
  go_upto_region 1 with fail
  refine wp_gen (fun W => ShrSt w.heap.size w (dgl a) (fun _ => 0) W) HST.out ?_
  rintro W1 h1
  clear HST
  refine wp_region_grow 7 [(6, .val (.int .u64 (n : Nat))), (7, .rd [n]), (8, .val (.agg #[.int .u64 (dgl (n) 0 : Nat), .int .u64 (dgl (n) 1 : Nat), .int .u64 (dgl (n) 2 : Nat), .int .u64 (dgl (n) 3 : Nat), .int .u64 (dgl (n) 4 : Nat), .int .u64 (dgl (n) 5 : Nat), .int .u64 (dgl (n) 6 : Nat), .int .u64 (dgl (n) 7 : Nat)])), (9, .val (.agg #[.int .u64 (dgl (a) 0 : Nat), .int .u64 (dgl (a) 1 : Nat), .int .u64 (dgl (a) 2 : Nat), .int .u64 (dgl (a) 3 : Nat), .int .u64 (dgl (a) 4 : Nat), .int .u64 (dgl (a) 5 : Nat), .int .u64 (dgl (a) 6 : Nat), .int .u64 (dgl (a) 7 : Nat)])), (10, .val (.tuple #[.agg #[.int .u64 (dgl (n * a) 0 : Nat), .int .u64 (dgl (n * a) 1 : Nat), .int .u64 (dgl (n * a) 2 : Nat), .int .u64 (dgl (n * a) 3 : Nat), .int .u64 (dgl (n * a) 4 : Nat), .int .u64 (dgl (n * a) 5 : Nat), .int .u64 (dgl (n * a) 6 : Nat), .int .u64 (dgl (n * a) 7 : Nat)], .bool t])), (11, .val (.agg #[.int .u64 (dgl (n * a) 0 : Nat), .int .u64 (dgl (n * a) 1 : Nat), .int .u64 (dgl (n * a) 2 : Nat), .int .u64 (dgl (n * a) 3 : Nat), .int .u64 (dgl (n * a) 4 : Nat), .int .u64 (dgl (n * a) 5 : Nat), .int .u64 (dgl (n * a) 6 : Nat), .int .u64 (dgl (n * a) 7 : Nat)])), (12, .val (.bool t))]
    (fun W => ShrSt w.heap.size w (dgl a) (fun _ => 0) W) mixedOk (by kernel_rfl) (by kernel_rfl) (h1.below (Below.refl _ _).drew) (fun W W' h hb => h.below hb) ?_ ?_
  · refine gSt (gStep_run rfl (gRun_move 1 6 (.inl rfl) rfl (by decide +kernel) (fun v w h => h))) ?_
    refine gSt (gStep_run rfl ?_) ?_
    · intro ρ W hC hc hf hL
      have e6 : ρ (.tmp 6) = .int .u64 (n : Nat) := hL 6 (by decide +kernel)
      simp [go_sem, hc, hf, e6]
      exact ⟨below_allocs _ _, Rd.lit (mk := mk64) W 22 [.int .u64 (n : Nat)] [n] rfl 1 (Nat.le_refl 1) (by decide)⟩
    refine gSt (gStep_run rfl ?_) ?_
    · intro ρ W hC hc hf hL
      have b7 := hL 7 (by decide +kernel)
      simp [go_sem, hc, hf]
      refine (wideOf_any [n] n _ _ b7 HD.out).mono ?_
      rintro e w' ⟨rfl, hb⟩
      exact ⟨_, rfl, by first | exact hb | (subst hb; exact Below.refl _ _), rfl⟩
    refine gSt (gStep_run rfl ?_) ?_
    · intro ρ W hC hc hf hL
      have e2 : ρ (.tmp 2) = .pointer (some ⟨w.heap.size, 0, none⟩) := hL 2 (by decide +kernel)
      have hl := hC.la.1
      simp [go_sem, hc, hf, e2, hl]
      exact ⟨Below.refl _ _, rfl⟩
    refine gSt (gStep_run rfl ?_) ?_
    · intro ρ W hC hc hf hL
      have e8 : ρ (.tmp 8) = .agg #[.int .u64 (dgl (n) 0 : Nat), .int .u64 (dgl (n) 1 : Nat), .int .u64 (dgl (n) 2 : Nat), .int .u64 (dgl (n) 3 : Nat), .int .u64 (dgl (n) 4 : Nat), .int .u64 (dgl (n) 5 : Nat), .int .u64 (dgl (n) 6 : Nat), .int .u64 (dgl (n) 7 : Nat)] := hL 8 (by decide +kernel)
      have e9 : ρ (.tmp 9) = .agg #[.int .u64 (dgl (a) 0 : Nat), .int .u64 (dgl (a) 1 : Nat), .int .u64 (dgl (a) 2 : Nat), .int .u64 (dgl (a) 3 : Nat), .int .u64 (dgl (a) 4 : Nat), .int .u64 (dgl (a) 5 : Nat), .int .u64 (dgl (a) 6 : Nat), .int .u64 (dgl (a) 7 : Nat)] := hL 9 (by decide +kernel)
      simp [go_sem, hc, hf, e8, e9]
      refine (HM.out _).mono ?_
      rintro e w' ⟨rfl, hb⟩
      exact ⟨_, rfl, by first | exact hb | (subst hb; exact Below.refl _ _), rfl⟩
    refine gSt (gStep_run rfl ?_) ?_
    · intro ρ W hC hc hf hL
      have e10 : ρ (.tmp 10) = .tuple #[.agg #[.int .u64 (dgl (n * a) 0 : Nat), .int .u64 (dgl (n * a) 1 : Nat), .int .u64 (dgl (n * a) 2 : Nat), .int .u64 (dgl (n * a) 3 : Nat), .int .u64 (dgl (n * a) 4 : Nat), .int .u64 (dgl (n * a) 5 : Nat), .int .u64 (dgl (n * a) 6 : Nat), .int .u64 (dgl (n * a) 7 : Nat)], .bool t] := hL 10 (by decide +kernel)
      simp [go_sem, hc, hf, e10]
      exact ⟨Below.refl _ _, rfl⟩
    refine gSt (gStep_run rfl ?_) ?_
    · intro ρ W hC hc hf hL
      have e10 : ρ (.tmp 10) = .tuple #[.agg #[.int .u64 (dgl (n * a) 0 : Nat), .int .u64 (dgl (n * a) 1 : Nat), .int .u64 (dgl (n * a) 2 : Nat), .int .u64 (dgl (n * a) 3 : Nat), .int .u64 (dgl (n * a) 4 : Nat), .int .u64 (dgl (n * a) 5 : Nat), .int .u64 (dgl (n * a) 6 : Nat), .int .u64 (dgl (n * a) 7 : Nat)], .bool t] := hL 10 (by decide +kernel)
      simp [go_sem, hc, hf, e10]
      exact ⟨Below.refl _ _, rfl⟩
    exact gSt0
  · intro W hC
    refine gFi 6 rfl ?_
    rintro _ rfl
    refine gFi 7 rfl ?_
    rintro u7 b7
    refine gFi 8 rfl ?_
    rintro _ rfl
    refine gFi 9 rfl ?_
    rintro _ rfl
    refine gFi 10 rfl ?_
    rintro _ rfl
    refine gFi 11 rfl ?_
    rintro _ rfl
    refine gFi 12 rfl ?_
    rintro _ rfl
    refine gFi0 ?_
    simp only [List.drop_succ_cons, List.drop_zero, Act.put, List.setIfInBounds_toArray, List.set_cons_succ, List.set_cons_zero]
    have hr := hC.lr.1
    have hrf := hC.fr
    have hl := hC.lr.2
    have HB := hide hC.bel
    clear hC h1 b7
    go_wp2
    exact bodyPost_ret (v := .tuple #[.agg #[.int .u64 (dgl (n * a) 0 : Nat), .int .u64 (dgl (n * a) 1 : Nat), .int .u64 (dgl (n * a) 2 : Nat), .int .u64 (dgl (n * a) 3 : Nat), .int .u64 (dgl (n * a) 4 : Nat), .int .u64 (dgl (n * a) 5 : Nat), .int .u64 (dgl (n * a) 6 : Nat), .int .u64 (dgl (n * a) 7 : Nat)], .bool t]) (by simp [results, Try.results55, go_sem, hr, hl]) rfl ⟨rfl, below_set8 HB.out _ (by omega) _ _ _ _ _ _ _ _⟩

/-- A slice of wides. -/
def RdW (w : World) (v : Value) (l : List Nat) : Prop :=
  ∃ ao cap, v = .slice ao l.length cap ∧ l.length ≤ cap ∧ cap ≤ maxLen ∧
    (l.length = 0 ∨ ∃ b off, ao = some ⟨b, off, none⟩ ∧ b < w.heap.size ∧ ∀ i j, i < l.length → j < 8 → w.cell? ⟨b, off + i * 8 + j, none⟩ = some (.int .u64 (dgl (dg l i) j : Nat)))
def sumN (l : List Nat) : Nat → Nat
  | 0 => 0
  | k + 1 => sumN l k + dg l k

structure SumLSt (w : World) (s : Nat) (wr : World) : Prop where
  lr : LiesF wr w.heap.size (fun _ => 0)
  fr : ∀ i, wr.frozen? ⟨w.heap.size, i, none⟩ = false
  ls : LiesF wr (w.heap.size + 1) (dgl s)
  fs : ∀ i, wr.frozen? ⟨w.heap.size + 1, i, none⟩ = false
  bel : Below w.heap.size w wr
theorem SumLSt.below {w : World} {s : Nat} {W W' : World} (h : SumLSt w s W) (hb : Below W.heap.size W W') : SumLSt w s W' :=
  ⟨h.lr.below hb, fun i => (hb.frozen (p := ⟨w.heap.size, i, none⟩) h.lr.2).trans (h.fr i), h.ls.below hb, fun i => (hb.frozen (p := ⟨w.heap.size + 1, i, none⟩) h.ls.2).trans (h.fs i), below_trans h.bel hb⟩
theorem SumLSt.set8 {w : World} {s t : Nat} {W : World} (h : SumLSt w s W) : SumLSt w t (((((((((W.setCell ⟨w.heap.size + 1, 0, none⟩ (.int .u64 (dgl t 0 : Nat))).setCell ⟨w.heap.size + 1, 1, none⟩ (.int .u64 (dgl t 1 : Nat))).setCell ⟨w.heap.size + 1, 2, none⟩ (.int .u64 (dgl t 2 : Nat))).setCell ⟨w.heap.size + 1, 3, none⟩ (.int .u64 (dgl t 3 : Nat))).setCell ⟨w.heap.size + 1, 4, none⟩ (.int .u64 (dgl t 4 : Nat))).setCell ⟨w.heap.size + 1, 5, none⟩ (.int .u64 (dgl t 5 : Nat))).setCell ⟨w.heap.size + 1, 6, none⟩ (.int .u64 (dgl t 6 : Nat))).setCell ⟨w.heap.size + 1, 7, none⟩ (.int .u64 (dgl t 7 : Nat)))) :=
  ⟨lies_ne h.lr (by omega), fun i => by simpa [go_sem] using h.fr i, set8_same W _ (dgl t) (dgl s) h.ls, fun i => by simpa [go_sem] using h.fs i, below_set8 h.bel _ (by omega) _ _ _ _ _ _ _ _⟩

end Go.Proofs.Ytjklehlkgccmnaa

/- Picks whose constant stands first; slices of wides across stores. -/
set_option linter.unusedVariables false
set_option linter.unusedSimpArgs false
set_option maxRecDepth 8000
namespace Go.Proofs.Ytjklehlkgccmnaa
open Go.RowKit Plain

section
variable {ops : Array Oper} {a : Act} {T : List (Nat × SlotIs)} {C : World → Prop} {o : Oper}
theorem gRun_pickCT {looks : List Tmp} (c d : Tmp) (x : Value) (y : Operand) (ho : o.op = .pick (.tmp c) (.const x) y) (hd : o.dst = some d) (hcm : c ∈ looks)
    (hT : ∀ v w, tbl a c T v w → v = .bool true) (h : ∀ w, tbl a d T x w) : gRun a T C o looks := by
  intro ρ w hC hc hf hL
  have hr : (execOp ρ o).run Try.prog w = .ok (.value x) w := by
    obtain ⟨dst, op, type, pos, after, guard⟩ := o
    simp only at ho; subst ho
    have := hT _ _ (hL c hcm)
    simp [execOp, this, go_sem, hc]
  rw [hr]
  refine ⟨Below.refl _ _, ?_⟩
  rw [hd]
  exact h _
theorem gRun_pickCF {looks : List Tmp} (c y d : Tmp) (x : Operand) (ho : o.op = .pick (.tmp c) x (.tmp y)) (hd : o.dst = some d) (hcm : c ∈ looks) (hym : y ∈ looks)
    (hT : ∀ v w, tbl a c T v w → v = .bool false) (h : ∀ v w, tbl a y T v w → tbl a d T v w) : gRun a T C o looks := by
  intro ρ w hC hc hf hL
  have hr : (execOp ρ o).run Try.prog w = .ok (.value (ρ (.tmp y))) w := by
    obtain ⟨dst, op, type, pos, after, guard⟩ := o
    simp only at ho; subst ho
    have := hT _ _ (hL c hcm)
    simp [execOp, this, go_sem]
  rw [hr]
  refine ⟨Below.refl _ _, ?_⟩
  rw [hd]
  exact h _ _ (hL y hym)
end

/-- Only the block r may have changed. -/
def OnlyAt (r : Nat) (w w' : World) : Prop := w.heap.size ≤ w'.heap.size ∧ ∀ b i, b ≠ r → w'.cell? ⟨b, i, none⟩ = w.cell? ⟨b, i, none⟩
theorem onlyAt_set8 (W : World) (r : Nat) (x0 x1 x2 x3 x4 x5 x6 x7 : Value) : OnlyAt r W ((((((((W.setCell ⟨r, 0, none⟩ x0).setCell ⟨r, 1, none⟩ x1).setCell ⟨r, 2, none⟩ x2).setCell ⟨r, 3, none⟩ x3).setCell ⟨r, 4, none⟩ x4).setCell ⟨r, 5, none⟩ x5).setCell ⟨r, 6, none⟩ x6).setCell ⟨r, 7, none⟩ x7) :=
  ⟨by simp, fun b i hne => by simp [go_sem, hne]⟩

/-- A slice of wides of the call's own. -/
def SlotIs.wides (r : Nat) (l : List Nat) : SlotIs :=
  ⟨fun v w => ∃ b, v = .slice (some ⟨b, 0, none⟩) l.length l.length ∧ r < b ∧ b < w.heap.size ∧ ∀ i j, i < l.length → j < 8 → w.cell? ⟨b, i * 8 + j, none⟩ = some (.int .u64 (dgl (dg l i) j : Nat)),
   fun v w w' hb ⟨b, h1, h2, h3, h4⟩ => ⟨b, h1, h2, Nat.lt_of_lt_of_le h3 hb.size, fun i j hi hj => (hb.cell (p := ⟨b, i * 8 + j, none⟩) h3).trans (h4 i j hi hj)⟩⟩
theorem wides_keep {r : Nat} {l : List Nat} {v : Value} {w w' : World} (hg : OnlyAt r w w') (h : (SlotIs.wides r l).R v w) : (SlotIs.wides r l).R v w' := by
  obtain ⟨b, h1, h2, h3, h4⟩ := h
  exact ⟨b, h1, h2, Nat.lt_of_lt_of_le h3 hg.1, fun i j hi hj => (hg.2 b _ (by omega)).trans (h4 i j hi hj)⟩
theorem wides_rd {r : Nat} {l : List Nat} {v : Value} {w : World} (hl : l.length ≤ 1000) (h : (SlotIs.wides r l).R v w) : RdW w v l := by
  obtain ⟨b, h1, h2, h3, h4⟩ := h
  exact ⟨some ⟨b, 0, none⟩, l.length, h1, Nat.le_refl _, by unfold maxLen; omega, .inr ⟨b, 0, rfl, h3, fun i j hi hj => by rw [Nat.zero_add]; exact h4 i j hi hj⟩⟩
theorem wides2_new (W : World) (q s : Nat) (e : TypeId) (i j : Nat) (hi : i < 2) (hj : j < 8) :
    (W.alloc (.cells #[.int .u64 (dgl q 0 : Nat), .int .u64 (dgl q 1 : Nat), .int .u64 (dgl q 2 : Nat), .int .u64 (dgl q 3 : Nat), .int .u64 (dgl q 4 : Nat), .int .u64 (dgl q 5 : Nat), .int .u64 (dgl q 6 : Nat), .int .u64 (dgl q 7 : Nat), .int .u64 (dgl s 0 : Nat), .int .u64 (dgl s 1 : Nat), .int .u64 (dgl s 2 : Nat), .int .u64 (dgl s 3 : Nat), .int .u64 (dgl s 4 : Nat), .int .u64 (dgl s 5 : Nat), .int .u64 (dgl s 6 : Nat), .int .u64 (dgl s 7 : Nat)] e)).cell? ⟨W.heap.size, i * 8 + j, none⟩ = some (.int .u64 (dgl (dg [q, s] i) j : Nat)) := by
  rcases (show i = 0 ∨ i = 1 by omega) with rfl | rfl <;>
  rcases (show j = 0 ∨ j = 1 ∨ j = 2 ∨ j = 3 ∨ j = 4 ∨ j = 5 ∨ j = 6 ∨ j = 7 by omega) with rfl | rfl | rfl | rfl | rfl | rfl | rfl | rfl <;>
  simp [go_sem, dg]

end Go.Proofs.Ytjklehlkgccmnaa

