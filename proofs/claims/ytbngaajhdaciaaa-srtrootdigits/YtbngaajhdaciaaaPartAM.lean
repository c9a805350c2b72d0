/- Contracts and laws: ProdC, ProdD, ProdE, GrowP, FlyN, SrqA, SrqB, SrtB0. -/
import Derived.Test.YtbngaajhdaciaaaPartAL
import Derived.Test.YtbngaajhdaciaaaPartAK
import Derived.Test.YtbngaajhdaciaaaPartAJ
import Derived.Test.YtbngaajhdaciaaaPartAG
import Derived.Test.YtbngaajhdaciaaaPartAC
/- Contracts: prod.halves, prod.all. -/
set_option linter.unusedVariables false
set_option linter.unusedSimpArgs false
set_option maxRecDepth 8000
namespace Go.Proofs.Ytbngaajhdaciaaa
open Go.RowKit Plain

/-- Sixteen limbs lie in a block. -/
def Lies16 (W : World) (b S : Nat) : Prop := (∀ i, i < 16 → W.cell? ⟨b, i, none⟩ = some (.int .u64 (dgl S i : Nat))) ∧ b < W.heap.size
theorem Lies16.below {W W' : World} {b S : Nat} (h : Lies16 W b S) (hb : Below W.heap.size W W') : Lies16 W' b S :=
  ⟨fun i hi => (hb.cell (p := ⟨b, i, none⟩) h.2).trans (h.1 i hi), Nat.lt_of_lt_of_le h.2 hb.size⟩
theorem lies16_new (w : World) (S : Nat) (e : TypeId) : Lies16 (w.alloc (.cells #[.int .u64 (dgl (S) 0 : Nat), .int .u64 (dgl (S) 1 : Nat), .int .u64 (dgl (S) 2 : Nat), .int .u64 (dgl (S) 3 : Nat), .int .u64 (dgl (S) 4 : Nat), .int .u64 (dgl (S) 5 : Nat), .int .u64 (dgl (S) 6 : Nat), .int .u64 (dgl (S) 7 : Nat), .int .u64 (dgl (S) 8 : Nat), .int .u64 (dgl (S) 9 : Nat), .int .u64 (dgl (S) 10 : Nat), .int .u64 (dgl (S) 11 : Nat), .int .u64 (dgl (S) 12 : Nat), .int .u64 (dgl (S) 13 : Nat), .int .u64 (dgl (S) 14 : Nat), .int .u64 (dgl (S) 15 : Nat)] e)) w.heap.size S := by
  refine ⟨fun i hi => ?_, by simp⟩
  match i, hi with
  | 0, _ => simp [go_sem]
  | 1, _ => simp [go_sem]
  | 2, _ => simp [go_sem]
  | 3, _ => simp [go_sem]
  | 4, _ => simp [go_sem]
  | 5, _ => simp [go_sem]
  | 6, _ => simp [go_sem]
  | 7, _ => simp [go_sem]
  | 8, _ => simp [go_sem]
  | 9, _ => simp [go_sem]
  | 10, _ => simp [go_sem]
  | 11, _ => simp [go_sem]
  | 12, _ => simp [go_sem]
  | 13, _ => simp [go_sem]
  | 14, _ => simp [go_sem]
  | 15, _ => simp [go_sem]
  | n + 16, h => omega

theorem rd_low {W : World} {b S : Nat} (h : Lies16 W b S) : Rd mk64 W (.slice (some ⟨b, 0, none⟩) 8 16) ((List.range 8).map (dgl S)) := by
  refine ⟨_, 16, by simp, by simp, by simp [maxLen], .inr ⟨b, 0, rfl, h.2, fun i hi => ?_⟩⟩
  have hi8 : i < 8 := by simpa using hi
  rw [Nat.zero_add, h.1 i (by omega)]
  have : dg ((List.range 8).map (dgl S)) i = dgl S i := by simp [dg, hi8]
  rw [this]; rfl
theorem rd_part {W : World} {b S p : Nat} (h : Lies16 W b S) (hp : p ≤ 16) : Rd mk64 W (.slice (some ⟨b, p, none⟩) (16 - p : Nat) (16 - p : Nat)) ((List.range (16 - p)).map fun i => dgl S (p + i)) := by
  refine ⟨some ⟨b, p, none⟩, 16 - p, by simp, by simp, by simp [maxLen]; omega, ?_⟩
  by_cases h0 : p = 16
  · exact .inl (by simp; omega)
  refine .inr ⟨b, p, rfl, h.2, fun i hi => ?_⟩
  have hi8 : i < 16 - p := by simpa using hi
  rw [h.1 (p + i) (by omega)]
  have : dg ((List.range (16 - p)).map fun i => dgl S (p + i)) i = dgl S (p + i) := by simp [dg, hi8]
  rw [this]; rfl
theorem of_low (S b : Nat) (W : World) (h : Lies16 W b S) : Calls Try.prog 30 #[.slice (some ⟨b, 0, none⟩) 8 16] W fun e w' => e = .returned (.agg #[.int .u64 (dgl (S) 0 : Nat), .int .u64 (dgl (S) 1 : Nat), .int .u64 (dgl (S) 2 : Nat), .int .u64 (dgl (S) 3 : Nat), .int .u64 (dgl (S) 4 : Nat), .int .u64 (dgl (S) 5 : Nat), .int .u64 (dgl (S) 6 : Nat), .int .u64 (dgl (S) 7 : Nat)]) ∧ Below W.heap.size W w' :=
  wideOf_any _ S _ W (rd_low h) (fun i hi => by simp [dg, hi])
theorem of_high (S b : Nat) (W : World) (h : Lies16 W b S) : Calls Try.prog 30 #[.slice (some ⟨b, 8, none⟩) 8 8] W fun e w' => e = .returned (.agg #[.int .u64 (dgl (S / QQ) 0 : Nat), .int .u64 (dgl (S / QQ) 1 : Nat), .int .u64 (dgl (S / QQ) 2 : Nat), .int .u64 (dgl (S / QQ) 3 : Nat), .int .u64 (dgl (S / QQ) 4 : Nat), .int .u64 (dgl (S / QQ) 5 : Nat), .int .u64 (dgl (S / QQ) 6 : Nat), .int .u64 (dgl (S / QQ) 7 : Nat)]) ∧ Below W.heap.size W w' :=
  wideOf_any _ (S / QQ) _ W (rd_part (p := 8) h (by omega)) (fun i hi => by rw [← dgl_high]; simp [dg, hi])

structure HalfSt (w : World) (S : Nat) (f1 f2 : Nat → Nat) (W : World) : Prop where
  lp : Lies16 W w.heap.size S
  l1 : LiesF W (w.heap.size + 1) f1
  f1 : ∀ i, W.frozen? ⟨w.heap.size + 1, i, none⟩ = false
  l2 : LiesF W (w.heap.size + 2) f2
  f2 : ∀ i, W.frozen? ⟨w.heap.size + 2, i, none⟩ = false
  bel : Below w.heap.size w W
theorem HalfSt.below {w : World} {S : Nat} {f1 f2 : Nat → Nat} {W W' : World} (h : HalfSt w S f1 f2 W) (hb : Below W.heap.size W W') : HalfSt w S f1 f2 W' :=
  ⟨h.lp.below hb, h.l1.below hb, fun i => (hb.frozen (p := ⟨w.heap.size + 1, i, none⟩) h.l1.2).trans (h.f1 i), h.l2.below hb, fun i => (hb.frozen (p := ⟨w.heap.size + 2, i, none⟩) h.l2.2).trans (h.f2 i), below_trans h.bel hb⟩
theorem lies_ne {W : World} {b B : Nat} {f : Nat → Nat} {x0 x1 x2 x3 x4 x5 x6 x7 : Value} (h : LiesF W b f) (hne : b ≠ B) : LiesF ((((((((W.setCell ⟨B, 0, none⟩ x0).setCell ⟨B, 1, none⟩ x1).setCell ⟨B, 2, none⟩ x2).setCell ⟨B, 3, none⟩ x3).setCell ⟨B, 4, none⟩ x4).setCell ⟨B, 5, none⟩ x5).setCell ⟨B, 6, none⟩ x6).setCell ⟨B, 7, none⟩ x7) b f := by
  refine ⟨fun i hi => ?_, by simpa using h.2⟩
  have := h.1 i hi
  simp [go_sem, this, hne]
theorem lies16_ne {W : World} {b B S : Nat} {x0 x1 x2 x3 x4 x5 x6 x7 : Value} (h : Lies16 W b S) (hne : b ≠ B) : Lies16 ((((((((W.setCell ⟨B, 0, none⟩ x0).setCell ⟨B, 1, none⟩ x1).setCell ⟨B, 2, none⟩ x2).setCell ⟨B, 3, none⟩ x3).setCell ⟨B, 4, none⟩ x4).setCell ⟨B, 5, none⟩ x5).setCell ⟨B, 6, none⟩ x6).setCell ⟨B, 7, none⟩ x7) b S := by
  refine ⟨fun i hi => ?_, by simpa using h.2⟩
  have := h.1 i hi
  simp [go_sem, this, hne]
theorem HalfSt.set1 {w : World} {S : Nat} {f1 f2 g : Nat → Nat} {W : World} (h : HalfSt w S f1 f2 W) : HalfSt w S g f2 ((((((((W.setCell ⟨w.heap.size + 1, 0, none⟩ (.int .u64 (g 0 : Nat))).setCell ⟨w.heap.size + 1, 1, none⟩ (.int .u64 (g 1 : Nat))).setCell ⟨w.heap.size + 1, 2, none⟩ (.int .u64 (g 2 : Nat))).setCell ⟨w.heap.size + 1, 3, none⟩ (.int .u64 (g 3 : Nat))).setCell ⟨w.heap.size + 1, 4, none⟩ (.int .u64 (g 4 : Nat))).setCell ⟨w.heap.size + 1, 5, none⟩ (.int .u64 (g 5 : Nat))).setCell ⟨w.heap.size + 1, 6, none⟩ (.int .u64 (g 6 : Nat))).setCell ⟨w.heap.size + 1, 7, none⟩ (.int .u64 (g 7 : Nat))) :=
  ⟨lies16_ne h.lp (by omega), set8_same W _ g f1 h.l1, fun i => by simpa [go_sem] using h.f1 i, lies_ne h.l2 (by omega), fun i => by simpa [go_sem] using h.f2 i, below_set8 h.bel _ (by omega) _ _ _ _ _ _ _ _⟩
theorem HalfSt.set2 {w : World} {S : Nat} {f1 f2 g : Nat → Nat} {W : World} (h : HalfSt w S f1 f2 W) : HalfSt w S f1 g ((((((((W.setCell ⟨w.heap.size + 2, 0, none⟩ (.int .u64 (g 0 : Nat))).setCell ⟨w.heap.size + 2, 1, none⟩ (.int .u64 (g 1 : Nat))).setCell ⟨w.heap.size + 2, 2, none⟩ (.int .u64 (g 2 : Nat))).setCell ⟨w.heap.size + 2, 3, none⟩ (.int .u64 (g 3 : Nat))).setCell ⟨w.heap.size + 2, 4, none⟩ (.int .u64 (g 4 : Nat))).setCell ⟨w.heap.size + 2, 5, none⟩ (.int .u64 (g 5 : Nat))).setCell ⟨w.heap.size + 2, 6, none⟩ (.int .u64 (g 6 : Nat))).setCell ⟨w.heap.size + 2, 7, none⟩ (.int .u64 (g 7 : Nat))) :=
  ⟨lies16_ne h.lp (by omega), lies_ne h.l1 (by omega), fun i => by simpa [go_sem] using h.f1 i, set8_same W _ g f2 h.l2, fun i => by simpa [go_sem] using h.f2 i, below_set8 h.bel _ (by omega) _ _ _ _ _ _ _ _⟩
theorem HalfSt.start (w : World) (S : Nat) : HalfSt w S (fun _ => 0) (fun _ => 0) (((w.alloc (.cells #[.int .u64 (dgl (S) 0 : Nat), .int .u64 (dgl (S) 1 : Nat), .int .u64 (dgl (S) 2 : Nat), .int .u64 (dgl (S) 3 : Nat), .int .u64 (dgl (S) 4 : Nat), .int .u64 (dgl (S) 5 : Nat), .int .u64 (dgl (S) 6 : Nat), .int .u64 (dgl (S) 7 : Nat), .int .u64 (dgl (S) 8 : Nat), .int .u64 (dgl (S) 9 : Nat), .int .u64 (dgl (S) 10 : Nat), .int .u64 (dgl (S) 11 : Nat), .int .u64 (dgl (S) 12 : Nat), .int .u64 (dgl (S) 13 : Nat), .int .u64 (dgl (S) 14 : Nat), .int .u64 (dgl (S) 15 : Nat)] 100)).alloc (.cells #[.int .u64 0, .int .u64 0, .int .u64 0, .int .u64 0, .int .u64 0, .int .u64 0, .int .u64 0, .int .u64 0] 24)).alloc (.cells #[.int .u64 0, .int .u64 0, .int .u64 0, .int .u64 0, .int .u64 0, .int .u64 0, .int .u64 0, .int .u64 0] 24)) := by
  have h1 := (liesF_new (w.alloc (.cells #[.int .u64 (dgl (S) 0 : Nat), .int .u64 (dgl (S) 1 : Nat), .int .u64 (dgl (S) 2 : Nat), .int .u64 (dgl (S) 3 : Nat), .int .u64 (dgl (S) 4 : Nat), .int .u64 (dgl (S) 5 : Nat), .int .u64 (dgl (S) 6 : Nat), .int .u64 (dgl (S) 7 : Nat), .int .u64 (dgl (S) 8 : Nat), .int .u64 (dgl (S) 9 : Nat), .int .u64 (dgl (S) 10 : Nat), .int .u64 (dgl (S) 11 : Nat), .int .u64 (dgl (S) 12 : Nat), .int .u64 (dgl (S) 13 : Nat), .int .u64 (dgl (S) 14 : Nat), .int .u64 (dgl (S) 15 : Nat)] 100)) (fun _ => 0) 24).alloc (.cells #[.int .u64 0, .int .u64 0, .int .u64 0, .int .u64 0, .int .u64 0, .int .u64 0, .int .u64 0, .int .u64 0] 24)
  have h2 := liesF_new ((w.alloc (.cells #[.int .u64 (dgl (S) 0 : Nat), .int .u64 (dgl (S) 1 : Nat), .int .u64 (dgl (S) 2 : Nat), .int .u64 (dgl (S) 3 : Nat), .int .u64 (dgl (S) 4 : Nat), .int .u64 (dgl (S) 5 : Nat), .int .u64 (dgl (S) 6 : Nat), .int .u64 (dgl (S) 7 : Nat), .int .u64 (dgl (S) 8 : Nat), .int .u64 (dgl (S) 9 : Nat), .int .u64 (dgl (S) 10 : Nat), .int .u64 (dgl (S) 11 : Nat), .int .u64 (dgl (S) 12 : Nat), .int .u64 (dgl (S) 13 : Nat), .int .u64 (dgl (S) 14 : Nat), .int .u64 (dgl (S) 15 : Nat)] 100)).alloc (.cells #[.int .u64 0, .int .u64 0, .int .u64 0, .int .u64 0, .int .u64 0, .int .u64 0, .int .u64 0, .int .u64 0] 24)) (fun _ => 0) 24
  simp only [World.size_alloc] at h1 h2
  exact ⟨((lies16_new w S 100).below (below_allocs _ _)).below (below_allocs _ _), h1, fun i => by simp [go_sem], h2, fun i => by simp [go_sem], below_trans (below_trans (below_allocs _ _) (below_allocs _ _)) (below_allocs _ _)⟩

set_option maxHeartbeats 2000000 in
theorem halves_any (S : Nat) (w : World) :
    Calls Try.prog 76 #[.agg #[.int .u64 (dgl (S) 0 : Nat), .int .u64 (dgl (S) 1 : Nat), .int .u64 (dgl (S) 2 : Nat), .int .u64 (dgl (S) 3 : Nat), .int .u64 (dgl (S) 4 : Nat), .int .u64 (dgl (S) 5 : Nat), .int .u64 (dgl (S) 6 : Nat), .int .u64 (dgl (S) 7 : Nat), .int .u64 (dgl (S) 8 : Nat), .int .u64 (dgl (S) 9 : Nat), .int .u64 (dgl (S) 10 : Nat), .int .u64 (dgl (S) 11 : Nat), .int .u64 (dgl (S) 12 : Nat), .int .u64 (dgl (S) 13 : Nat), .int .u64 (dgl (S) 14 : Nat), .int .u64 (dgl (S) 15 : Nat)]] w fun e w' => e = .returned (.tuple #[.agg #[.int .u64 (dgl (S) 0 : Nat), .int .u64 (dgl (S) 1 : Nat), .int .u64 (dgl (S) 2 : Nat), .int .u64 (dgl (S) 3 : Nat), .int .u64 (dgl (S) 4 : Nat), .int .u64 (dgl (S) 5 : Nat), .int .u64 (dgl (S) 6 : Nat), .int .u64 (dgl (S) 7 : Nat)], .agg #[.int .u64 (dgl (S / QQ) 0 : Nat), .int .u64 (dgl (S / QQ) 1 : Nat), .int .u64 (dgl (S / QQ) 2 : Nat), .int .u64 (dgl (S / QQ) 3 : Nat), .int .u64 (dgl (S / QQ) 4 : Nat), .int .u64 (dgl (S / QQ) 5 : Nat), .int .u64 (dgl (S / QQ) 6 : Nat), .int .u64 (dgl (S / QQ) 7 : Nat)]]) ∧ Below w.heap.size w w' := by
  have HST := hide (HalfSt.start w S)
  go_enter Try.func76, Try.ntmps76
  go_upto_region 1 with fail
  refine wp_gen (fun W => HalfSt w S (fun _ => 0) (fun _ => 0) W) HST.out ?_
  rintro W1 h1
  clear HST
  refine wp_region_store 6 [4, 5] [(4, .slice (some ⟨w.heap.size, 0, none⟩) 8 16), (5, .agg #[.int .u64 (dgl (S) 0 : Nat), .int .u64 (dgl (S) 1 : Nat), .int .u64 (dgl (S) 2 : Nat), .int .u64 (dgl (S) 3 : Nat), .int .u64 (dgl (S) 4 : Nat), .int .u64 (dgl (S) 5 : Nat), .int .u64 (dgl (S) 6 : Nat), .int .u64 (dgl (S) 7 : Nat)]), (6, .slice (some ⟨w.heap.size, 8, none⟩) 8 8), (7, .agg #[.int .u64 (dgl (S / QQ) 0 : Nat), .int .u64 (dgl (S / QQ) 1 : Nat), .int .u64 (dgl (S / QQ) 2 : Nat), .int .u64 (dgl (S / QQ) 3 : Nat), .int .u64 (dgl (S / QQ) 4 : Nat), .int .u64 (dgl (S / QQ) 5 : Nat), .int .u64 (dgl (S / QQ) 6 : Nat), .int .u64 (dgl (S / QQ) 7 : Nat)])]
    (fun bs W => HalfSt w S (bif bs.headD false then dgl S else fun _ => 0) (bif bs.tail.headD false then dgl (S / QQ) else fun _ => 0) W) mixedOk (by kernel_rfl) (by kernel_rfl) (by kernel_rfl) (h1.below (Below.refl _ _).drew) (fun bs W W' h hb => h.below hb) ?_ ?_
  · refine sSt rfl (fun bs => gStep_run rfl ?_) ?_
    · intro ρ W hC hc hf hL
      have e1 : ρ (.tmp 1) = .pointer (some ⟨w.heap.size, 0, none⟩) := hL 1 (by decide +kernel)
      have hl := hC.lp.2
      simp [go_sem, hc, hf, e1, hl]
      exact ⟨Below.refl _ _, rfl⟩
    refine sSt rfl (fun bs => gStep_run rfl ?_) ?_
    · intro ρ W hC hc hf hL
      have e4 : ρ (.tmp 4) = .slice (some ⟨w.heap.size, 0, none⟩) 8 16 := hL 4 (by decide +kernel)
      simp [go_sem, hc, hf, e4]
      refine (of_low S _ _ hC.lp).mono ?_
      rintro e w' ⟨rfl, hb⟩
      exact ⟨_, rfl, by first | exact hb | (subst hb; exact Below.refl _ _), rfl⟩
    refine sSt rfl (fun bs => gStep_run rfl ?_) ?_
    · intro ρ W hC hc hf hL
      have e1 : ρ (.tmp 1) = .pointer (some ⟨w.heap.size, 0, none⟩) := hL 1 (by decide +kernel)
      have hl := hC.lp.2
      simp [go_sem, hc, hf, e1, hl]
      exact ⟨Below.refl _ _, rfl⟩
    refine sSt rfl (fun bs => gStep_run rfl ?_) ?_
    · intro ρ W hC hc hf hL
      have e6 : ρ (.tmp 6) = .slice (some ⟨w.heap.size, 8, none⟩) 8 8 := hL 6 (by decide +kernel)
      simp [go_sem, hc, hf, e6]
      refine (of_high S _ _ hC.lp).mono ?_
      rintro e w' ⟨rfl, hb⟩
      exact ⟨_, rfl, by first | exact hb | (subst hb; exact Below.refl _ _), rfl⟩
    refine sStS rfl ⟨rfl, rfl, ?_⟩ ?_
    · intro φ ρ W hφ hC hc hL
      have e2 : ρ (.tmp 2) = .pointer (some ⟨w.heap.size + 1, 0, none⟩) := hL 2 (by decide +kernel)
      have e5 : ρ (.tmp 5) = .agg #[.int .u64 (dgl (S) 0 : Nat), .int .u64 (dgl (S) 1 : Nat), .int .u64 (dgl (S) 2 : Nat), .int .u64 (dgl (S) 3 : Nat), .int .u64 (dgl (S) 4 : Nat), .int .u64 (dgl (S) 5 : Nat), .int .u64 (dgl (S) 6 : Nat), .int .u64 (dgl (S) 7 : Nat)] := hL 5 (by decide +kernel)
      change HalfSt w S (bif φ 4 then dgl S else fun _ => 0) (bif φ 5 then dgl (S / QQ) else fun _ => 0) W at hC
      rw [hφ] at hC
      have hz := hC.l1.1
      have hzl := hC.l1.2
      have hzf := hC.f1
      simp only [cond_false] at hz
      simp [go_sem, hc, e2, e5, hz, hzf, hzl]
      change HalfSt w S (dgl S) (bif (φ 5 || false) then dgl (S / QQ) else fun _ => 0) _
      rw [Bool.or_false]
      exact hC.set1
    refine sStS rfl ⟨rfl, rfl, ?_⟩ ?_
    · intro φ ρ W hφ hC hc hL
      have e3 : ρ (.tmp 3) = .pointer (some ⟨w.heap.size + 2, 0, none⟩) := hL 3 (by decide +kernel)
      have e7 : ρ (.tmp 7) = .agg #[.int .u64 (dgl (S / QQ) 0 : Nat), .int .u64 (dgl (S / QQ) 1 : Nat), .int .u64 (dgl (S / QQ) 2 : Nat), .int .u64 (dgl (S / QQ) 3 : Nat), .int .u64 (dgl (S / QQ) 4 : Nat), .int .u64 (dgl (S / QQ) 5 : Nat), .int .u64 (dgl (S / QQ) 6 : Nat), .int .u64 (dgl (S / QQ) 7 : Nat)] := hL 7 (by decide +kernel)
      change HalfSt w S (bif φ 4 then dgl S else fun _ => 0) (bif φ 5 then dgl (S / QQ) else fun _ => 0) W at hC
      rw [hφ] at hC
      have hz := hC.l2.1
      have hzl := hC.l2.2
      have hzf := hC.f2
      simp only [cond_false] at hz
      simp [go_sem, hc, e3, e7, hz, hzf, hzl]
      change HalfSt w S (bif (φ 4 || false) then dgl S else fun _ => 0) (dgl (S / QQ)) _
      rw [Bool.or_false]
      exact hC.set2
    exact sSt0
  · intro W hC
    refine gFi 4 rfl ?_
    rintro _ rfl
    refine gFi 5 rfl ?_
    rintro _ rfl
    refine gFi 6 rfl ?_
    rintro _ rfl
    refine gFi 7 rfl ?_
    rintro _ rfl
    refine gFiN rfl ?_
    refine gFiN rfl ?_
    refine gFi0 ?_
    simp only [List.drop_succ_cons, List.drop_zero, Act.put, List.setIfInBounds_toArray, List.set_cons_succ, List.set_cons_zero]
    have hr1 := hC.l1.1
    have hr2 := hC.l2.1
    have HB := hide hC.bel
    clear hC h1
    change ∀ i, i < 8 → W.cell? ⟨w.heap.size + 1, i, none⟩ = some (.int .u64 (dgl S i : Nat)) at hr1
    change ∀ i, i < 8 → W.cell? ⟨w.heap.size + 2, i, none⟩ = some (.int .u64 (dgl (S / QQ) i : Nat)) at hr2
    go_wp2
    exact bodyPost_ret (v := .tuple #[.agg #[.int .u64 (dgl (S) 0 : Nat), .int .u64 (dgl (S) 1 : Nat), .int .u64 (dgl (S) 2 : Nat), .int .u64 (dgl (S) 3 : Nat), .int .u64 (dgl (S) 4 : Nat), .int .u64 (dgl (S) 5 : Nat), .int .u64 (dgl (S) 6 : Nat), .int .u64 (dgl (S) 7 : Nat)], .agg #[.int .u64 (dgl (S / QQ) 0 : Nat), .int .u64 (dgl (S / QQ) 1 : Nat), .int .u64 (dgl (S / QQ) 2 : Nat), .int .u64 (dgl (S / QQ) 3 : Nat), .int .u64 (dgl (S / QQ) 4 : Nat), .int .u64 (dgl (S / QQ) 5 : Nat), .int .u64 (dgl (S / QQ) 6 : Nat), .int .u64 (dgl (S / QQ) 7 : Nat)]]) (by simp [results, Try.results76, go_sem, hr1, hr2]) rfl ⟨rfl, HB.out⟩

theorem all_any (p : Nat) (w : World) : Calls Try.prog 78 #[.int .i64 (p : Nat)] w fun e w' => e = .returned (.bool true) ∧ w' = w := by
  go_enter Try.func78, Try.ntmps78
  go_wp2
  go_ret
  exact ⟨rfl, rfl⟩

theorem summed_all (a b : Nat) (ha : a < QQ) (hb : b < QQ) (w : World) :
    Calls Try.prog 77 #[.agg #[.int .u64 (dgl (a) 0 : Nat), .int .u64 (dgl (a) 1 : Nat), .int .u64 (dgl (a) 2 : Nat), .int .u64 (dgl (a) 3 : Nat), .int .u64 (dgl (a) 4 : Nat), .int .u64 (dgl (a) 5 : Nat), .int .u64 (dgl (a) 6 : Nat), .int .u64 (dgl (a) 7 : Nat)], .agg #[.int .u64 (dgl (b) 0 : Nat), .int .u64 (dgl (b) 1 : Nat), .int .u64 (dgl (b) 2 : Nat), .int .u64 (dgl (b) 3 : Nat), .int .u64 (dgl (b) 4 : Nat), .int .u64 (dgl (b) 5 : Nat), .int .u64 (dgl (b) 6 : Nat), .int .u64 (dgl (b) 7 : Nat)], .func (.func 78) #[] #[]] w fun e w' => e = .returned (.agg #[.int .u64 (dgl (a * b) 0 : Nat), .int .u64 (dgl (a * b) 1 : Nat), .int .u64 (dgl (a * b) 2 : Nat), .int .u64 (dgl (a * b) 3 : Nat), .int .u64 (dgl (a * b) 4 : Nat), .int .u64 (dgl (a * b) 5 : Nat), .int .u64 (dgl (a * b) 6 : Nat), .int .u64 (dgl (a * b) 7 : Nat), .int .u64 (dgl (a * b) 8 : Nat), .int .u64 (dgl (a * b) 9 : Nat), .int .u64 (dgl (a * b) 10 : Nat), .int .u64 (dgl (a * b) 11 : Nat), .int .u64 (dgl (a * b) 12 : Nat), .int .u64 (dgl (a * b) 13 : Nat), .int .u64 (dgl (a * b) 14 : Nat), .int .u64 (dgl (a * b) 15 : Nat)]) ∧ Below w.heap.size w w' := by
  have h := summed_any 78 #[] (fun _ => true) a b w (enters_of Try.func78 (by kernel_rfl) rfl) (fun p wr hp hb => all_any p wr)
  rw [all_mul a b ha hb] at h
  exact h

end Go.Proofs.Ytbngaajhdaciaaa

/- Contracts: prod.Mul, Square, Small. -/
set_option linter.unusedVariables false
set_option linter.unusedSimpArgs false
set_option maxRecDepth 8000
namespace Go.Proofs.Ytbngaajhdaciaaa
open Go.RowKit Plain

/-- The result's block, and that nothing below has changed. -/
structure ResSt (w : World) (r : Nat) (f : Nat → Nat) (W : World) : Prop where
  lr : LiesF W r f
  fr : ∀ i, W.frozen? ⟨r, i, none⟩ = false
  bel : Below w.heap.size w W
theorem ResSt.below {w : World} {r : Nat} {f : Nat → Nat} {W W' : World} (h : ResSt w r f W) (hb : Below W.heap.size W W') : ResSt w r f W' :=
  ⟨h.lr.below hb, fun i => (hb.frozen (p := ⟨r, i, none⟩) h.lr.2).trans (h.fr i), below_trans h.bel hb⟩
theorem ResSt.set8 {w : World} {r : Nat} {f g : Nat → Nat} {W : World} (h : ResSt w r f W) (hr : w.heap.size ≤ r) : ResSt w r g ((((((((W.setCell ⟨r, 0, none⟩ (.int .u64 (g 0 : Nat))).setCell ⟨r, 1, none⟩ (.int .u64 (g 1 : Nat))).setCell ⟨r, 2, none⟩ (.int .u64 (g 2 : Nat))).setCell ⟨r, 3, none⟩ (.int .u64 (g 3 : Nat))).setCell ⟨r, 4, none⟩ (.int .u64 (g 4 : Nat))).setCell ⟨r, 5, none⟩ (.int .u64 (g 5 : Nat))).setCell ⟨r, 6, none⟩ (.int .u64 (g 6 : Nat))).setCell ⟨r, 7, none⟩ (.int .u64 (g 7 : Nat))) :=
  ⟨set8_same W r g f h.lr, fun i => by simpa [go_sem] using h.fr i, below_set8 h.bel _ hr _ _ _ _ _ _ _ _⟩

set_option maxHeartbeats 2000000 in
theorem prodMul_walk (fa fb fl fh : Nat → Nat) (S : Nat) (t : Bool) (w : World)
    (HSUM : Hid (∀ w, Calls Try.prog 77 #[.agg #[.int .u64 (fa 0 : Nat), .int .u64 (fa 1 : Nat), .int .u64 (fa 2 : Nat), .int .u64 (fa 3 : Nat), .int .u64 (fa 4 : Nat), .int .u64 (fa 5 : Nat), .int .u64 (fa 6 : Nat), .int .u64 (fa 7 : Nat)], .agg #[.int .u64 (fb 0 : Nat), .int .u64 (fb 1 : Nat), .int .u64 (fb 2 : Nat), .int .u64 (fb 3 : Nat), .int .u64 (fb 4 : Nat), .int .u64 (fb 5 : Nat), .int .u64 (fb 6 : Nat), .int .u64 (fb 7 : Nat)], .func (.func 78) #[] #[]] w fun e w' => e = .returned (.agg #[.int .u64 (dgl (S) 0 : Nat), .int .u64 (dgl (S) 1 : Nat), .int .u64 (dgl (S) 2 : Nat), .int .u64 (dgl (S) 3 : Nat), .int .u64 (dgl (S) 4 : Nat), .int .u64 (dgl (S) 5 : Nat), .int .u64 (dgl (S) 6 : Nat), .int .u64 (dgl (S) 7 : Nat), .int .u64 (dgl (S) 8 : Nat), .int .u64 (dgl (S) 9 : Nat), .int .u64 (dgl (S) 10 : Nat), .int .u64 (dgl (S) 11 : Nat), .int .u64 (dgl (S) 12 : Nat), .int .u64 (dgl (S) 13 : Nat), .int .u64 (dgl (S) 14 : Nat), .int .u64 (dgl (S) 15 : Nat)]) ∧ Below w.heap.size w w'))
    (HHAL : Hid (∀ w, Calls Try.prog 76 #[.agg #[.int .u64 (dgl (S) 0 : Nat), .int .u64 (dgl (S) 1 : Nat), .int .u64 (dgl (S) 2 : Nat), .int .u64 (dgl (S) 3 : Nat), .int .u64 (dgl (S) 4 : Nat), .int .u64 (dgl (S) 5 : Nat), .int .u64 (dgl (S) 6 : Nat), .int .u64 (dgl (S) 7 : Nat), .int .u64 (dgl (S) 8 : Nat), .int .u64 (dgl (S) 9 : Nat), .int .u64 (dgl (S) 10 : Nat), .int .u64 (dgl (S) 11 : Nat), .int .u64 (dgl (S) 12 : Nat), .int .u64 (dgl (S) 13 : Nat), .int .u64 (dgl (S) 14 : Nat), .int .u64 (dgl (S) 15 : Nat)]] w fun e w' => e = .returned (.tuple #[.agg #[.int .u64 (fl 0 : Nat), .int .u64 (fl 1 : Nat), .int .u64 (fl 2 : Nat), .int .u64 (fl 3 : Nat), .int .u64 (fl 4 : Nat), .int .u64 (fl 5 : Nat), .int .u64 (fl 6 : Nat), .int .u64 (fl 7 : Nat)], .agg #[.int .u64 (fh 0 : Nat), .int .u64 (fh 1 : Nat), .int .u64 (fh 2 : Nat), .int .u64 (fh 3 : Nat), .int .u64 (fh 4 : Nat), .int .u64 (fh 5 : Nat), .int .u64 (fh 6 : Nat), .int .u64 (fh 7 : Nat)]]) ∧ Below w.heap.size w w'))
    (heq : ∀ w, (Op.equalIn 10000 24 (.agg #[.int .u64 (fh 0 : Nat), .int .u64 (fh 1 : Nat), .int .u64 (fh 2 : Nat), .int .u64 (fh 3 : Nat), .int .u64 (fh 4 : Nat), .int .u64 (fh 5 : Nat), .int .u64 (fh 6 : Nat), .int .u64 (fh 7 : Nat)]) (.agg #[.int .u64 0, .int .u64 0, .int .u64 0, .int .u64 0, .int .u64 0, .int .u64 0, .int .u64 0, .int .u64 0])).run Try.prog w = .ok t w) :
    Calls Try.prog 61 #[.agg #[.int .u64 (fa 0 : Nat), .int .u64 (fa 1 : Nat), .int .u64 (fa 2 : Nat), .int .u64 (fa 3 : Nat), .int .u64 (fa 4 : Nat), .int .u64 (fa 5 : Nat), .int .u64 (fa 6 : Nat), .int .u64 (fa 7 : Nat)], .agg #[.int .u64 (fb 0 : Nat), .int .u64 (fb 1 : Nat), .int .u64 (fb 2 : Nat), .int .u64 (fb 3 : Nat), .int .u64 (fb 4 : Nat), .int .u64 (fb 5 : Nat), .int .u64 (fb 6 : Nat), .int .u64 (fb 7 : Nat)]] w fun e w' => e = .returned (.tuple #[.agg #[.int .u64 (fl 0 : Nat), .int .u64 (fl 1 : Nat), .int .u64 (fl 2 : Nat), .int .u64 (fl 3 : Nat), .int .u64 (fl 4 : Nat), .int .u64 (fl 5 : Nat), .int .u64 (fl 6 : Nat), .int .u64 (fl 7 : Nat)], .bool t]) ∧ Below w.heap.size w w' := by
  have HS0 : Hid (ResSt w (w.heap.size + 1 + 1) (fun _ => 0) (((w.alloc (.cells #[.int .u64 (fa 0 : Nat), .int .u64 (fa 1 : Nat), .int .u64 (fa 2 : Nat), .int .u64 (fa 3 : Nat), .int .u64 (fa 4 : Nat), .int .u64 (fa 5 : Nat), .int .u64 (fa 6 : Nat), .int .u64 (fa 7 : Nat)] 24)).alloc (.cells #[.int .u64 (fb 0 : Nat), .int .u64 (fb 1 : Nat), .int .u64 (fb 2 : Nat), .int .u64 (fb 3 : Nat), .int .u64 (fb 4 : Nat), .int .u64 (fb 5 : Nat), .int .u64 (fb 6 : Nat), .int .u64 (fb 7 : Nat)] 24)).alloc (.cells #[.int .u64 0, .int .u64 0, .int .u64 0, .int .u64 0, .int .u64 0, .int .u64 0, .int .u64 0, .int .u64 0] 24))) := by
    have h2 := liesF_new ((w.alloc (.cells #[.int .u64 (fa 0 : Nat), .int .u64 (fa 1 : Nat), .int .u64 (fa 2 : Nat), .int .u64 (fa 3 : Nat), .int .u64 (fa 4 : Nat), .int .u64 (fa 5 : Nat), .int .u64 (fa 6 : Nat), .int .u64 (fa 7 : Nat)] 24)).alloc (.cells #[.int .u64 (fb 0 : Nat), .int .u64 (fb 1 : Nat), .int .u64 (fb 2 : Nat), .int .u64 (fb 3 : Nat), .int .u64 (fb 4 : Nat), .int .u64 (fb 5 : Nat), .int .u64 (fb 6 : Nat), .int .u64 (fb 7 : Nat)] 24)) (fun _ => 0) 24
    simp only [World.size_alloc] at h2
    exact ⟨h2, fun i => by simp [go_sem], below_trans (below_trans (below_allocs _ _) (below_allocs _ _)) (below_allocs _ _)⟩
  go_enter Try.func61, Try.ntmps61
  go_wp2_with fail
  refine (HSUM.out _).mono ?_
  rintro e w1 ⟨rfl, hb1⟩
  have HS1 := hide (HS0.out.below hb1)
  clear HS0 hb1
  go_wp2_with fail
  refine (HHAL.out _).mono ?_
  rintro e w2 ⟨rfl, hb2⟩
  have HS2 := hide (HS1.out.below hb2)
  clear HS1 hb2
  go_upto_region 2 with fail
  refine wp_gen (fun W => ResSt w (w.heap.size + 1 + 1) (fun _ => 0) W ∧ LiesF W w2.heap.size fl ∧ LiesF W (w2.heap.size + 1) fh) ?_ ?_
  · have h3 := liesF_new (w2.alloc (.cells #[.int .u64 (fl 0 : Nat), .int .u64 (fl 1 : Nat), .int .u64 (fl 2 : Nat), .int .u64 (fl 3 : Nat), .int .u64 (fl 4 : Nat), .int .u64 (fl 5 : Nat), .int .u64 (fl 6 : Nat), .int .u64 (fl 7 : Nat)] 24)) fh 24
    rw [World.size_alloc] at h3
    exact ⟨(HS2.out.below (below_allocs _ _)).below (below_allocs _ _), (liesF_new w2 fl 24).alloc _, h3⟩
  rintro W2 h2
  have hp6 : w.heap.size + 1 + 1 < w2.heap.size := HS2.out.lr.2
  generalize hp : w2.heap.size = p6 at *
  obtain ⟨p7, hp7⟩ : ∃ p7, p6 + 1 = p7 := ⟨_, rfl⟩
  rw [hp7] at h2 ⊢
  clear HS2 hp
  refine wp_region_store 5 [4] [(15, .agg #[.int .u64 (fl 0 : Nat), .int .u64 (fl 1 : Nat), .int .u64 (fl 2 : Nat), .int .u64 (fl 3 : Nat), .int .u64 (fl 4 : Nat), .int .u64 (fl 5 : Nat), .int .u64 (fl 6 : Nat), .int .u64 (fl 7 : Nat)]), (16, .agg #[.int .u64 (fh 0 : Nat), .int .u64 (fh 1 : Nat), .int .u64 (fh 2 : Nat), .int .u64 (fh 3 : Nat), .int .u64 (fh 4 : Nat), .int .u64 (fh 5 : Nat), .int .u64 (fh 6 : Nat), .int .u64 (fh 7 : Nat)]), (17, .agg #[.int .u64 0, .int .u64 0, .int .u64 0, .int .u64 0, .int .u64 0, .int .u64 0, .int .u64 0, .int .u64 0]), (18, .bool t)]
    (fun bs W => ResSt w (w.heap.size + 1 + 1) (bif bs.headD false then fl else fun _ => 0) W ∧ LiesF W p6 fl ∧ LiesF W p7 fh) mixedOk (by kernel_rfl) (by kernel_rfl) (by kernel_rfl) (⟨h2.1.below (Below.refl _ _).drew, h2.2.1, h2.2.2⟩) (fun bs W W' h hb => ⟨h.1.below hb, h.2.1.below hb, h.2.2.below hb⟩) ?_ ?_
  · refine sSt rfl (fun bs => gStep_run rfl ?_) ?_
    · intro ρ W hC hc hf hL
      have e6 : ρ (.tmp 6) = .pointer (some ⟨p6, 0, none⟩) := hL 6 (by decide +kernel)
      have hl := hC.2.1.1
      simp [go_sem, hc, hf, e6, hl]
      exact ⟨Below.refl _ _, rfl⟩
    refine sSt rfl (fun bs => gStep_run rfl ?_) ?_
    · intro ρ W hC hc hf hL
      have e7 : ρ (.tmp 7) = .pointer (some ⟨p7, 0, none⟩) := hL 7 (by decide +kernel)
      have hl := hC.2.2.1
      simp [go_sem, hc, hf, e7, hl]
      exact ⟨Below.refl _ _, rfl⟩
    refine sSt rfl (fun bs => gStep_run rfl ?_) ?_
    · intro ρ W hC hc hf hL
      simp [go_sem, hc, hf]
      exact ⟨Below.refl _ _, rfl⟩
    refine sSt rfl (fun bs => gStep_run rfl ?_) ?_
    · intro ρ W hC hc hf hL
      have e16 : ρ (.tmp 16) = .agg #[.int .u64 (fh 0 : Nat), .int .u64 (fh 1 : Nat), .int .u64 (fh 2 : Nat), .int .u64 (fh 3 : Nat), .int .u64 (fh 4 : Nat), .int .u64 (fh 5 : Nat), .int .u64 (fh 6 : Nat), .int .u64 (fh 7 : Nat)] := hL 16 (by decide +kernel)
      have e17 : ρ (.tmp 17) = .agg #[.int .u64 0, .int .u64 0, .int .u64 0, .int .u64 0, .int .u64 0, .int .u64 0, .int .u64 0, .int .u64 0] := hL 17 (by decide +kernel)
      simp [go_sem, hc, hf, e16, e17, heq]
      exact ⟨Below.refl _ _, rfl⟩
    refine sStS rfl ⟨rfl, rfl, ?_⟩ ?_
    · intro φ ρ W hφ hC hc hL
      have e4 : ρ (.tmp 4) = .pointer (some ⟨w.heap.size + 1 + 1, 0, none⟩) := hL 4 (by decide +kernel)
      have e15 : ρ (.tmp 15) = .agg #[.int .u64 (fl 0 : Nat), .int .u64 (fl 1 : Nat), .int .u64 (fl 2 : Nat), .int .u64 (fl 3 : Nat), .int .u64 (fl 4 : Nat), .int .u64 (fl 5 : Nat), .int .u64 (fl 6 : Nat), .int .u64 (fl 7 : Nat)] := hL 15 (by decide +kernel)
      simp only [List.map_cons, List.map_nil, List.headD_cons, hφ, cond_false] at hC
      have hz := hC.1.lr.1
      have hzl := hC.1.lr.2
      have hzf := hC.1.fr
      simp [go_sem, hc, e4, e15, hz, hzf, hzl]
      exact ⟨hC.1.set8 (by omega), lies_ne hC.2.1 (by omega), lies_ne hC.2.2 (by omega)⟩
    exact sSt0
  · intro W hC
    refine gFi 15 rfl ?_
    rintro _ rfl
    refine gFi 16 rfl ?_
    rintro _ rfl
    refine gFi 17 rfl ?_
    rintro _ rfl
    refine gFi 18 rfl ?_
    rintro _ rfl
    refine gFiN rfl ?_
    refine gFi0 ?_
    simp only [List.drop_succ_cons, List.drop_zero, Act.put, List.setIfInBounds_toArray, List.set_cons_succ, List.set_cons_zero]
    have hr := hC.1.lr.1
    have HB := hide hC.1.bel
    clear hC h2
    change ∀ i, i < 8 → W.cell? ⟨w.heap.size + 1 + 1, i, none⟩ = some (.int .u64 (fl i : Nat)) at hr
    go_wp2
    exact bodyPost_ret (v := .tuple #[.agg #[.int .u64 (fl 0 : Nat), .int .u64 (fl 1 : Nat), .int .u64 (fl 2 : Nat), .int .u64 (fl 3 : Nat), .int .u64 (fl 4 : Nat), .int .u64 (fl 5 : Nat), .int .u64 (fl 6 : Nat), .int .u64 (fl 7 : Nat)], .bool t]) (by simp [results, Try.results61, go_sem, hr]) rfl ⟨rfl, HB.out⟩

theorem dgl_z : (dgl 0) = fun _ => 0 := funext dgl_zero
theorem wide_eqz {a : Nat} (ha : a < QQ) (w : World) : (Op.equalIn 10000 24 (.agg #[.int .u64 (dgl (a) 0 : Nat), .int .u64 (dgl (a) 1 : Nat), .int .u64 (dgl (a) 2 : Nat), .int .u64 (dgl (a) 3 : Nat), .int .u64 (dgl (a) 4 : Nat), .int .u64 (dgl (a) 5 : Nat), .int .u64 (dgl (a) 6 : Nat), .int .u64 (dgl (a) 7 : Nat)]) (.agg #[.int .u64 0, .int .u64 0, .int .u64 0, .int .u64 0, .int .u64 0, .int .u64 0, .int .u64 0, .int .u64 0])).run Try.prog w = .ok (decide (a = 0)) w := by
  have h := wide_eqb ha (show 0 < QQ by omega) w
  simp only [dgl_zero] at h
  exact h
theorem qq_mul_lt {a b : Nat} (ha : a < QQ) (hb : b < QQ) : a * b / QQ < QQ := by
  have h : a * b < QQ * QQ := Nat.mul_lt_mul_of_lt_of_lt ha hb
  exact Nat.div_lt_of_lt_mul h
theorem prodMul_any (a b : Nat) (ha : a < QQ) (hb : b < QQ) (w : World) :
    Calls Try.prog 61 #[.agg #[.int .u64 (dgl (a) 0 : Nat), .int .u64 (dgl (a) 1 : Nat), .int .u64 (dgl (a) 2 : Nat), .int .u64 (dgl (a) 3 : Nat), .int .u64 (dgl (a) 4 : Nat), .int .u64 (dgl (a) 5 : Nat), .int .u64 (dgl (a) 6 : Nat), .int .u64 (dgl (a) 7 : Nat)], .agg #[.int .u64 (dgl (b) 0 : Nat), .int .u64 (dgl (b) 1 : Nat), .int .u64 (dgl (b) 2 : Nat), .int .u64 (dgl (b) 3 : Nat), .int .u64 (dgl (b) 4 : Nat), .int .u64 (dgl (b) 5 : Nat), .int .u64 (dgl (b) 6 : Nat), .int .u64 (dgl (b) 7 : Nat)]] w fun e w' => e = .returned (.tuple #[.agg #[.int .u64 (dgl (a * b) 0 : Nat), .int .u64 (dgl (a * b) 1 : Nat), .int .u64 (dgl (a * b) 2 : Nat), .int .u64 (dgl (a * b) 3 : Nat), .int .u64 (dgl (a * b) 4 : Nat), .int .u64 (dgl (a * b) 5 : Nat), .int .u64 (dgl (a * b) 6 : Nat), .int .u64 (dgl (a * b) 7 : Nat)], .bool (decide (a * b < QQ))]) ∧ Below w.heap.size w w' := by
  have hq : decide (a * b / QQ = 0) = decide (a * b < QQ) := by
    rw [decide_eq_decide]
    exact Nat.div_eq_zero_iff_lt (by omega)
  rw [← hq]
  exact prodMul_walk (dgl a) (dgl b) (dgl (a * b)) (dgl (a * b / QQ)) (a * b) _ w (fun w => summed_all a b ha hb w) (fun w => halves_any (a * b) w) (fun w => wide_eqz (qq_mul_lt ha hb) w)

end Go.Proofs.Ytbngaajhdaciaaa

/- Contracts: prod.Square, Small, Sum. -/
set_option linter.unusedVariables false
set_option linter.unusedSimpArgs false
set_option maxRecDepth 8000
namespace Go.Proofs.Ytbngaajhdaciaaa
open Go.RowKit Plain

def SlotIs.rd (l : List Nat) : SlotIs := ⟨fun v w => Rd mk64 w v l, fun v w w' hb h => h.below hb⟩

set_option maxHeartbeats 1000000 in
theorem prodSquare_any (a : Nat) (ha : a < QQ) (w : World) :
    Calls Try.prog 32 #[.agg #[.int .u64 (dgl (a) 0 : Nat), .int .u64 (dgl (a) 1 : Nat), .int .u64 (dgl (a) 2 : Nat), .int .u64 (dgl (a) 3 : Nat), .int .u64 (dgl (a) 4 : Nat), .int .u64 (dgl (a) 5 : Nat), .int .u64 (dgl (a) 6 : Nat), .int .u64 (dgl (a) 7 : Nat)]] w fun e w' => e = .returned (.tuple #[.agg #[.int .u64 (dgl (a * a) 0 : Nat), .int .u64 (dgl (a * a) 1 : Nat), .int .u64 (dgl (a * a) 2 : Nat), .int .u64 (dgl (a * a) 3 : Nat), .int .u64 (dgl (a * a) 4 : Nat), .int .u64 (dgl (a * a) 5 : Nat), .int .u64 (dgl (a * a) 6 : Nat), .int .u64 (dgl (a * a) 7 : Nat)], .bool (decide (a * a < QQ))]) ∧ Below w.heap.size w w' := by
  have HM := hide (fun w => prodMul_any a a ha ha w)
  generalize decide (a * a < QQ) = t at *
  have HST := hide (shrSt_start (dgl a) w)
  clear ha
  go_enter Try.func32, Try.ntmps32
  go_wp2_with fail
  refine (HM.out _).mono ?_
  rintro e w1 ⟨rfl, hb1⟩
  replace HST := hide (HST.out.below hb1)
  have hr := HST.out.lr.1
  have hrf := HST.out.fr
  have hl := HST.out.lr.2
  have HB := hide HST.out.bel
  clear hb1 HST
  go_wp2
  exact bodyPost_ret (v := .tuple #[.agg #[.int .u64 (dgl (a * a) 0 : Nat), .int .u64 (dgl (a * a) 1 : Nat), .int .u64 (dgl (a * a) 2 : Nat), .int .u64 (dgl (a * a) 3 : Nat), .int .u64 (dgl (a * a) 4 : Nat), .int .u64 (dgl (a * a) 5 : Nat), .int .u64 (dgl (a * a) 6 : Nat), .int .u64 (dgl (a * a) 7 : Nat)], .bool t]) (by simp [results, Try.results32, go_sem, hr, hl]) rfl ⟨rfl, below_set8 HB.out _ (by omega) _ _ _ _ _ _ _ _⟩

theorem ll_lt_qq {n : Nat} (h : n < 18446744073709551616) : n < QQ := Nat.lt_of_lt_of_le h (by unfold QQ; exact Nat.le_self_pow (by decide) _)

set_option maxHeartbeats 1000000 in
theorem prodSmall_any (a n : Nat) (ha : a < QQ) (hn : n < 18446744073709551616) (w : World) :
    Calls Try.prog 68 #[.agg #[.int .u64 (dgl (a) 0 : Nat), .int .u64 (dgl (a) 1 : Nat), .int .u64 (dgl (a) 2 : Nat), .int .u64 (dgl (a) 3 : Nat), .int .u64 (dgl (a) 4 : Nat), .int .u64 (dgl (a) 5 : Nat), .int .u64 (dgl (a) 6 : Nat), .int .u64 (dgl (a) 7 : Nat)], .int .u64 (n : Nat)] w fun e w' => e = .returned (.tuple #[.agg #[.int .u64 (dgl (n * a) 0 : Nat), .int .u64 (dgl (n * a) 1 : Nat), .int .u64 (dgl (n * a) 2 : Nat), .int .u64 (dgl (n * a) 3 : Nat), .int .u64 (dgl (n * a) 4 : Nat), .int .u64 (dgl (n * a) 5 : Nat), .int .u64 (dgl (n * a) 6 : Nat), .int .u64 (dgl (n * a) 7 : Nat)], .bool (decide (n * a < QQ))]) ∧ Below w.heap.size w w' := by
  have HM := hide (fun w => prodMul_any n a (ll_lt_qq hn) ha w)
  have HD : Hid (∀ i, i < 8 → dg [n] i = dgl n i) := fun i hi => (dig_one (β := 18446744073709551616) hn).2 i
  generalize decide (n * a < QQ) = t at *
  have HST := hide (shrSt_start (dgl a) w)
  clear ha hn
  go_enter Try.func68, Try.ntmps68
  go_upto_region 1 with fail
  refine wp_gen (fun W => ShrSt w.heap.size w (dgl a) (fun _ => 0) W) HST.out ?_
  rintro W1 h1
  clear HST
  refine wp_region_grow 7 [(6, .val (.int .u64 (n : Nat))), (7, .rd [n]), (8, .val (.agg #[.int .u64 (dgl (n) 0 : Nat), .int .u64 (dgl (n) 1 : Nat), .int .u64 (dgl (n) 2 : Nat), .int .u64 (dgl (n) 3 : Nat), .int .u64 (dgl (n) 4 : Nat), .int .u64 (dgl (n) 5 : Nat), .int .u64 (dgl (n) 6 : Nat), .int .u64 (dgl (n) 7 : Nat)])), (9, .val (.agg #[.int .u64 (dgl (a) 0 : Nat), .int .u64 (dgl (a) 1 : Nat), .int .u64 (dgl (a) 2 : Nat), .int .u64 (dgl (a) 3 : Nat), .int .u64 (dgl (a) 4 : Nat), .int .u64 (dgl (a) 5 : Nat), .int .u64 (dgl (a) 6 : Nat), .int .u64 (dgl (a) 7 : Nat)])), (10, .val (.tuple #[.agg #[.int .u64 (dgl (n * a) 0 : Nat), .int .u64 (dgl (n * a) 1 : Nat), .int .u64 (dgl (n * a) 2 : Nat), .int .u64 (dgl (n * a) 3 : Nat), .int .u64 (dgl (n * a) 4 : Nat), .int .u64 (dgl (n * a) 5 : Nat), .int .u64 (dgl (n * a) 6 : Nat), .int .u64 (dgl (n * a) 7 : Nat)], .bool t])), (11, .val (.agg #[.int .u64 (dgl (n * a) 0 : Nat), .int .u64 (dgl (n * a) 1 : Nat), .int .u64 (dgl (n * a) 2 : Nat), .int .u64 (dgl (n * a) 3 : Nat), .int .u64 (dgl (n * a) 4 : Nat), .int .u64 (dgl (n * a) 5 : Nat), .int .u64 (dgl (n * a) 6 : Nat), .int .u64 (dgl (n * a) 7 : Nat)])), (12, .val (.bool t))]
    (fun W => ShrSt w.heap.size w (dgl a) (fun _ => 0) W) mixedOk (by kernel_rfl) (by kernel_rfl) (h1.below (Below.refl _ _).drew) (fun W W' h hb => h.below hb) ?_ ?_
  · refine gSt (gStep_run rfl (gRun_move 1 6 (.inl rfl) rfl (by decide +kernel) (fun v w h => h))) ?_
    refine gSt (gStep_run rfl ?_) ?_
    · intro ρ W hC hc hf hL
      have e6 : ρ (.tmp 6) = .int .u64 (n : Nat) := hL 6 (by decide +kernel)
      simp [go_sem, hc, hf, e6]
      exact ⟨below_allocs _ _, Rd.lit (mk := mk64) W 22 [.int .u64 (n : Nat)] [n] rfl 1 (Nat.le_refl 1) (by decide)⟩
    refine gSt (gStep_run rfl ?_) ?_
    · intro ρ W hC hc hf hL
      have b7 := hL 7 (by decide +kernel)
      simp [go_sem, hc, hf]
      refine (wideOf_any [n] n _ _ b7 HD.out).mono ?_
      rintro e w' ⟨rfl, hb⟩
      exact ⟨_, rfl, by first | exact hb | (subst hb; exact Below.refl _ _), rfl⟩
    refine gSt (gStep_run rfl ?_) ?_
    · intro ρ W hC hc hf hL
      have e2 : ρ (.tmp 2) = .pointer (some ⟨w.heap.size, 0, none⟩) := hL 2 (by decide +kernel)
      have hl := hC.la.1
      simp [go_sem, hc, hf, e2, hl]
      exact ⟨Below.refl _ _, rfl⟩
    refine gSt (gStep_run rfl ?_) ?_
    · intro ρ W hC hc hf hL
      have e8 : ρ (.tmp 8) = .agg #[.int .u64 (dgl (n) 0 : Nat), .int .u64 (dgl (n) 1 : Nat), .int .u64 (dgl (n) 2 : Nat), .int .u64 (dgl (n) 3 : Nat), .int .u64 (dgl (n) 4 : Nat), .int .u64 (dgl (n) 5 : Nat), .int .u64 (dgl (n) 6 : Nat), .int .u64 (dgl (n) 7 : Nat)] := hL 8 (by decide +kernel)
      have e9 : ρ (.tmp 9) = .agg #[.int .u64 (dgl (a) 0 : Nat), .int .u64 (dgl (a) 1 : Nat), .int .u64 (dgl (a) 2 : Nat), .int .u64 (dgl (a) 3 : Nat), .int .u64 (dgl (a) 4 : Nat), .int .u64 (dgl (a) 5 : Nat), .int .u64 (dgl (a) 6 : Nat), .int .u64 (dgl (a) 7 : Nat)] := hL 9 (by decide +kernel)
      simp [go_sem, hc, hf, e8, e9]
      refine (HM.out _).mono ?_
      rintro e w' ⟨rfl, hb⟩
      exact ⟨_, rfl, by first | exact hb | (subst hb; exact Below.refl _ _), rfl⟩
    refine gSt (gStep_run rfl ?_) ?_
    · intro ρ W hC hc hf hL
      have e10 : ρ (.tmp 10) = .tuple #[.agg #[.int .u64 (dgl (n * a) 0 : Nat), .int .u64 (dgl (n * a) 1 : Nat), .int .u64 (dgl (n * a) 2 : Nat), .int .u64 (dgl (n * a) 3 : Nat), .int .u64 (dgl (n * a) 4 : Nat), .int .u64 (dgl (n * a) 5 : Nat), .int .u64 (dgl (n * a) 6 : Nat), .int .u64 (dgl (n * a) 7 : Nat)], .bool t] := hL 10 (by decide +kernel)
      simp [go_sem, hc, hf, e10]
      exact ⟨Below.refl _ _, rfl⟩
    refine gSt (gStep_run rfl ?_) ?_
    · intro ρ W hC hc hf hL
      have e10 : ρ (.tmp 10) = .tuple #[.agg #[.int .u64 (dgl (n * a) 0 : Nat), .int .u64 (dgl (n * a) 1 : Nat), .int .u64 (dgl (n * a) 2 : Nat), .int .u64 (dgl (n * a) 3 : Nat), .int .u64 (dgl (n * a) 4 : Nat), .int .u64 (dgl (n * a) 5 : Nat), .int .u64 (dgl (n * a) 6 : Nat), .int .u64 (dgl (n * a) 7 : Nat)], .bool t] := hL 10 (by decide +kernel)
      simp [go_sem, hc, hf, e10]
      exact ⟨Below.refl _ _, rfl⟩
    exact gSt0
  · intro W hC
    refine gFi 6 rfl ?_
    rintro _ rfl
    refine gFi 7 rfl ?_
    rintro u7 b7
    refine gFi 8 rfl ?_
    rintro _ rfl
    refine gFi 9 rfl ?_
    rintro _ rfl
    refine gFi 10 rfl ?_
    rintro _ rfl
    refine gFi 11 rfl ?_
    rintro _ rfl
    refine gFi 12 rfl ?_
    rintro _ rfl
    refine gFi0 ?_
    simp only [List.drop_succ_cons, List.drop_zero, Act.put, List.setIfInBounds_toArray, List.set_cons_succ, List.set_cons_zero]
    have hr := hC.lr.1
    have hrf := hC.fr
    have hl := hC.lr.2
    have HB := hide hC.bel
    clear hC h1 b7
    go_wp2
    exact bodyPost_ret (v := .tuple #[.agg #[.int .u64 (dgl (n * a) 0 : Nat), .int .u64 (dgl (n * a) 1 : Nat), .int .u64 (dgl (n * a) 2 : Nat), .int .u64 (dgl (n * a) 3 : Nat), .int .u64 (dgl (n * a) 4 : Nat), .int .u64 (dgl (n * a) 5 : Nat), .int .u64 (dgl (n * a) 6 : Nat), .int .u64 (dgl (n * a) 7 : Nat)], .bool t]) (by simp [results, Try.results68, go_sem, hr, hl]) rfl ⟨rfl, below_set8 HB.out _ (by omega) _ _ _ _ _ _ _ _⟩

/-- A slice of wides. -/
def RdW (w : World) (v : Value) (l : List Nat) : Prop :=
  ∃ ao cap, v = .slice ao l.length cap ∧ l.length ≤ cap ∧ cap ≤ maxLen ∧
    (l.length = 0 ∨ ∃ b off, ao = some ⟨b, off, none⟩ ∧ b < w.heap.size ∧ ∀ i j, i < l.length → j < 8 → w.cell? ⟨b, off + i * 8 + j, none⟩ = some (.int .u64 (dgl (dg l i) j : Nat)))
def sumN (l : List Nat) : Nat → Nat
  | 0 => 0
  | k + 1 => sumN l k + dg l k

structure SumLSt (w : World) (s : Nat) (wr : World) : Prop where
  lr : LiesF wr w.heap.size (fun _ => 0)
  fr : ∀ i, wr.frozen? ⟨w.heap.size, i, none⟩ = false
  ls : LiesF wr (w.heap.size + 1) (dgl s)
  fs : ∀ i, wr.frozen? ⟨w.heap.size + 1, i, none⟩ = false
  bel : Below w.heap.size w wr
theorem SumLSt.below {w : World} {s : Nat} {W W' : World} (h : SumLSt w s W) (hb : Below W.heap.size W W') : SumLSt w s W' :=
  ⟨h.lr.below hb, fun i => (hb.frozen (p := ⟨w.heap.size, i, none⟩) h.lr.2).trans (h.fr i), h.ls.below hb, fun i => (hb.frozen (p := ⟨w.heap.size + 1, i, none⟩) h.ls.2).trans (h.fs i), below_trans h.bel hb⟩
theorem SumLSt.set8 {w : World} {s t : Nat} {W : World} (h : SumLSt w s W) : SumLSt w t (((((((((W.setCell ⟨w.heap.size + 1, 0, none⟩ (.int .u64 (dgl t 0 : Nat))).setCell ⟨w.heap.size + 1, 1, none⟩ (.int .u64 (dgl t 1 : Nat))).setCell ⟨w.heap.size + 1, 2, none⟩ (.int .u64 (dgl t 2 : Nat))).setCell ⟨w.heap.size + 1, 3, none⟩ (.int .u64 (dgl t 3 : Nat))).setCell ⟨w.heap.size + 1, 4, none⟩ (.int .u64 (dgl t 4 : Nat))).setCell ⟨w.heap.size + 1, 5, none⟩ (.int .u64 (dgl t 5 : Nat))).setCell ⟨w.heap.size + 1, 6, none⟩ (.int .u64 (dgl t 6 : Nat))).setCell ⟨w.heap.size + 1, 7, none⟩ (.int .u64 (dgl t 7 : Nat)))) :=
  ⟨lies_ne h.lr (by omega), fun i => by simpa [go_sem] using h.fr i, set8_same W _ (dgl t) (dgl s) h.ls, fun i => by simpa [go_sem] using h.fs i, below_set8 h.bel _ (by omega) _ _ _ _ _ _ _ _⟩

set_option maxHeartbeats 2000000 in
theorem prodSum_any (l : List Nat) (v : Value) (w : World) (hr : RdW w v l) (hl : ∀ i, dg l i < QQ) :
    Calls Try.prog 52 #[v] w fun e w' => e = .returned (.agg #[.int .u64 (dgl (sumN l l.length) 0 : Nat), .int .u64 (dgl (sumN l l.length) 1 : Nat), .int .u64 (dgl (sumN l l.length) 2 : Nat), .int .u64 (dgl (sumN l l.length) 3 : Nat), .int .u64 (dgl (sumN l l.length) 4 : Nat), .int .u64 (dgl (sumN l l.length) 5 : Nat), .int .u64 (dgl (sumN l l.length) 6 : Nat), .int .u64 (dgl (sumN l l.length) 7 : Nat)]) ∧ Below w.heap.size w w' := by
  obtain ⟨ao, ca, rfl, hca, hma, hra⟩ := hr
  unfold maxLen at hma
  have HRA := hide hra
  have HL := hide hl
  clear hra hl
  have HADD := hide (fun (s x : Nat) (hx : x < QQ) w => wideAdd_any (s % QQ) x (Nat.mod_lt _ (by omega)) hx w)
  have HS0 : Hid (SumLSt w 0 ((w.alloc (.cells #[.int .u64 0, .int .u64 0, .int .u64 0, .int .u64 0, .int .u64 0, .int .u64 0, .int .u64 0, .int .u64 0] 24)).alloc (.cells #[.int .u64 0, .int .u64 0, .int .u64 0, .int .u64 0, .int .u64 0, .int .u64 0, .int .u64 0, .int .u64 0] 24))) := by
    have h1 := (liesF_new w (fun _ => 0) 24).alloc (.cells #[.int .u64 0, .int .u64 0, .int .u64 0, .int .u64 0, .int .u64 0, .int .u64 0, .int .u64 0, .int .u64 0] 24)
    have h2 := liesF_new (w.alloc (.cells #[.int .u64 0, .int .u64 0, .int .u64 0, .int .u64 0, .int .u64 0, .int .u64 0, .int .u64 0, .int .u64 0] 24)) (fun _ => 0) 24
    rw [World.size_alloc] at h2
    exact ⟨h1, fun i => by simp [go_sem], by rw [dgl_z]; exact h2, fun i => by simp [go_sem], below_trans (below_allocs _ _) (below_allocs _ _)⟩
  generalize hn : l.length = n at *
  have HN := hide hn
  clear hn
  go_enter Try.func52, Try.ntmps52
  go_wp2
  go_loopw [8] (fun i wr => ∃ k : Nat, k ≤ n ∧ i = .int .i64 k ∧ Hid (SumLSt w (sumN l k) wr))
    (fun i _ => n - (intOf i).toNat)
  case atStart => exact ⟨0, by omega, rfl, HS0.out⟩
  case round =>
    clear HS0
    obtain ⟨k, hk, rfl, hst⟩ := hrel
    by_cases hlt : k < n
    · have hj : (k : Int) < (n : Int) := by omega
      rcases unhide HRA with hc | ⟨b, off, rfl, hbl, hcell⟩
      · omega
      · have hck : ∀ j, j < 8 → wr.cell? ⟨b, off + k * 8 + j, none⟩ = some (.int .u64 (dgl (dg l k) j : Nat)) := fun j hj => (hst.out.bel.cell (p := ⟨b, off + k * 8 + j, none⟩) hbl).trans (hcell k j hlt hj)
        have hck0 := hck 0 (by decide)
        rw [Nat.add_zero] at hck0
        have hcs := hst.out.ls.1
        have HX := hide (HL.out k)
        have HSUM := hide (show sumN l (k + 1) = sumN l k + dg l k from rfl)
        clear hcell
        generalize dg l k = x at *
        generalize sumN l k = s at *
        go_upto_region 5 with fail
        refine wp_gen (fun W => SumLSt w s W ∧ LiesF W wr.heap.size (dgl x)) ⟨hst.out.below (below_allocs _ _), liesF_new _ _ _⟩ ?_
        rintro W5 ⟨h5, h5x⟩
        have hcs := h5.ls.1
        have hcx := h5x.1
        have HS5 := hide h5
        clear h5 h5x hck hck0 hst
        have hadd := fun w => HADD.out s x HX.out w
        rw [w8_mod (Nat.mod_mod s QQ), w8_mod (show (s % QQ + x) % QQ = (s + x) % QQ by rw [Nat.mod_add_mod])] at hadd
        have HA2 := hide hadd
        clear hadd
        generalize decide (QQ ≤ s % QQ + x) = o at *
        generalize wr.heap.size = p5 at *
        go_wp2_with fail
        refine (HA2.out _).mono ?_
        rintro e w6 ⟨rfl, hb6⟩
        replace HS5 := hide (HS5.out.below hb6)
        have hcs := HS5.out.ls.1
        have hfs := HS5.out.fs
        have hls := HS5.out.ls.2
        clear hb6 hcx
        go_wp2
        go_roundw
        case rel => exact ⟨k + 1, by omega, by go_num, by rw [HSUM.out]; exact HS5.out.set8⟩
        case measure => simp [intOf]; omega
    · have hk2 : k = n := by omega
      subst hk2
      have hcs := hst.out.ls.1
      have hr := hst.out.lr.1
      have hrf := hst.out.fr
      have hl := hst.out.lr.2
      have HB := hide hst.out.bel
      clear hst
      have hj : ¬ (k : Int) < (k : Int) := by omega
      go_wp2
      exact bodyPost_ret (v := .agg #[.int .u64 (dgl (sumN l k) 0 : Nat), .int .u64 (dgl (sumN l k) 1 : Nat), .int .u64 (dgl (sumN l k) 2 : Nat), .int .u64 (dgl (sumN l k) 3 : Nat), .int .u64 (dgl (sumN l k) 4 : Nat), .int .u64 (dgl (sumN l k) 5 : Nat), .int .u64 (dgl (sumN l k) 6 : Nat), .int .u64 (dgl (sumN l k) 7 : Nat)]) (by simp [results, Try.results52, go_sem, hr, hl]) rfl ⟨rfl, below_set8 HB.out _ (by omega) _ _ _ _ _ _ _ _⟩

end Go.Proofs.Ytbngaajhdaciaaa

/- Picks whose constant stands first; slices of wides across stores. -/
set_option linter.unusedVariables false
set_option linter.unusedSimpArgs false
set_option maxRecDepth 8000
namespace Go.Proofs.Ytbngaajhdaciaaa
open Go.RowKit Plain

section
variable {ops : Array Oper} {a : Act} {T : List (Nat × SlotIs)} {C : World → Prop} {o : Oper}
end

/-- A slice of wides of the call's own. -/
def SlotIs.wides (r : Nat) (l : List Nat) : SlotIs :=
  ⟨fun v w => ∃ b, v = .slice (some ⟨b, 0, none⟩) l.length l.length ∧ r < b ∧ b < w.heap.size ∧ ∀ i j, i < l.length → j < 8 → w.cell? ⟨b, i * 8 + j, none⟩ = some (.int .u64 (dgl (dg l i) j : Nat)),
   fun v w w' hb ⟨b, h1, h2, h3, h4⟩ => ⟨b, h1, h2, Nat.lt_of_lt_of_le h3 hb.size, fun i j hi hj => (hb.cell (p := ⟨b, i * 8 + j, none⟩) h3).trans (h4 i j hi hj)⟩⟩
theorem wides_rd {r : Nat} {l : List Nat} {v : Value} {w : World} (hl : l.length ≤ 1000) (h : (SlotIs.wides r l).R v w) : RdW w v l := by
  obtain ⟨b, h1, h2, h3, h4⟩ := h
  exact ⟨some ⟨b, 0, none⟩, l.length, h1, Nat.le_refl _, by unfold maxLen; omega, .inr ⟨b, 0, rfl, h3, fun i j hi hj => by rw [Nat.zero_add]; exact h4 i j hi hj⟩⟩
theorem wides2_new (W : World) (q s : Nat) (e : TypeId) (i j : Nat) (hi : i < 2) (hj : j < 8) :
    (W.alloc (.cells #[.int .u64 (dgl q 0 : Nat), .int .u64 (dgl q 1 : Nat), .int .u64 (dgl q 2 : Nat), .int .u64 (dgl q 3 : Nat), .int .u64 (dgl q 4 : Nat), .int .u64 (dgl q 5 : Nat), .int .u64 (dgl q 6 : Nat), .int .u64 (dgl q 7 : Nat), .int .u64 (dgl s 0 : Nat), .int .u64 (dgl s 1 : Nat), .int .u64 (dgl s 2 : Nat), .int .u64 (dgl s 3 : Nat), .int .u64 (dgl s 4 : Nat), .int .u64 (dgl s 5 : Nat), .int .u64 (dgl s 6 : Nat), .int .u64 (dgl s 7 : Nat)] e)).cell? ⟨W.heap.size, i * 8 + j, none⟩ = some (.int .u64 (dgl (dg [q, s] i) j : Nat)) := by
  rcases (show i = 0 ∨ i = 1 by omega) with rfl | rfl <;>
  rcases (show j = 0 ∨ j = 1 ∨ j = 2 ∨ j = 3 ∨ j = 4 ∨ j = 5 ∨ j = 6 ∨ j = 7 by omega) with rfl | rfl | rfl | rfl | rfl | rfl | rfl | rfl <;>
  simp [go_sem, dg]

end Go.Proofs.Ytbngaajhdaciaaa

/- Numbers of the fly laws: whole numbers modulo 2^512, digits of either sign. -/
set_option linter.unusedVariables false
set_option linter.unusedSimpArgs false
set_option maxRecDepth 8000
namespace Go.Proofs.Ytbngaajhdaciaaa
open Go.RowKit Plain

theorem qq_pos : 0 < QQ := by decide +kernel
theorem qq_big : 1000 < QQ := by decide +kernel
/-- A whole number modulo 2^512. -/
def qz (z : Int) : Nat := (z % (QQ : Int)).toNat
theorem qz_int (z : Int) : ((qz z : Nat) : Int) = z % (QQ : Int) := by
  unfold qz
  have h := Int.emod_nonneg z (b := (QQ : Int)) (by have := qq_pos; omega)
  omega
theorem qz_lt (z : Int) : qz z < QQ := by
  have h := Int.emod_lt_of_pos z (b := (QQ : Int)) (by have := qq_pos; omega)
  have h2 := qz_int z
  omega
theorem qz_of {x : Nat} {z : Int} (k : Int) (h : (x : Int) = z + (QQ : Int) * k) : qz z = x % QQ := by
  apply Int.natCast_inj.1
  rw [qz_int, Int.natCast_emod, h, Int.add_mul_emod_self_left]
theorem qz_nat {x : Nat} (h : x < QQ) : qz (x : Int) = x := by
  have := qz_of (x := x) (z := (x : Int)) 0 (by omega)
  rw [this, Nat.mod_eq_of_lt h]
theorem qz_zero : qz 0 = 0 := by
  have := qz_nat (x := 0) qq_pos
  simpa using this
theorem qz_split (z : Int) : ∃ k : Int, ((qz z : Nat) : Int) = z + (QQ : Int) * k :=
  ⟨-(z / (QQ : Int)), by rw [qz_int, Int.emod_def, Int.mul_neg]; omega⟩
theorem sub_one (q : Nat) (hq : q < QQ) : subQ q 1 = qz ((q : Int) - 1) := by
  have h := subW_eq (β := 18446744073709551616) (by decide) 8 q 1
  have h1 : (1 : Nat) % 18446744073709551616 ^ 8 = 1 := by decide +kernel
  have h2 : q % 18446744073709551616 ^ 8 = q := Nat.mod_eq_of_lt hq
  rw [h1, h2] at h
  have h4 : subQ q 1 + 1 = q + QQ * bor 18446744073709551616 q 1 8 := h
  have h3 := qz_of (x := subQ q 1) (z := (q : Int) - 1) (bor 18446744073709551616 q 1 8 : Nat) (by
    have h5 : ((subQ q 1 + 1 : Nat) : Int) = ((q + QQ * bor 18446744073709551616 q 1 8 : Nat) : Int) := congrArg _ h4
    push_cast at h5
    omega)
  rw [h3, Nat.mod_eq_of_lt (subQ_lt q 1)]
/-- A digit of either sign, kept as a number. -/
def zof (x : Nat) : Int := (x : Int) - 9223372036854775808
def nof (z : Int) : Nat := (z + 9223372036854775808).toNat
def mkZ (x : Nat) : Value := .int .i64 (zof x)
theorem zof_nof {z : Int} (h : -9223372036854775808 ≤ z) : zof (nof z) = z := by unfold zof nof; omega
theorem mkZ_nof {z : Int} (h : -9223372036854775808 ≤ z) : mkZ (nof z) = .int .i64 z := by unfold mkZ; rw [zof_nof h]
end Go.Proofs.Ytbngaajhdaciaaa

/- Numbers modulo 2^512 that stand for numbers of either sign: what the wide functions make of them. -/
set_option linter.unusedVariables false
set_option linter.unusedSimpArgs false
set_option maxRecDepth 8000
namespace Go.Proofs.Ytbngaajhdaciaaa
open Go.RowKit Plain

theorem wq {x : Nat} {z : Int} (k : Int) (h : (x : Int) = z + (QQ : Int) * k) : (#[.int .u64 (dgl (x) 0 : Nat), .int .u64 (dgl (x) 1 : Nat), .int .u64 (dgl (x) 2 : Nat), .int .u64 (dgl (x) 3 : Nat), .int .u64 (dgl (x) 4 : Nat), .int .u64 (dgl (x) 5 : Nat), .int .u64 (dgl (x) 6 : Nat), .int .u64 (dgl (x) 7 : Nat)] : Array Value) = #[.int .u64 (dgl (qz z) 0 : Nat), .int .u64 (dgl (qz z) 1 : Nat), .int .u64 (dgl (qz z) 2 : Nat), .int .u64 (dgl (qz z) 3 : Nat), .int .u64 (dgl (qz z) 4 : Nat), .int .u64 (dgl (qz z) 5 : Nat), .int .u64 (dgl (qz z) 6 : Nat), .int .u64 (dgl (qz z) 7 : Nat)] :=
  w8_mod (by rw [qz_of k h, Nat.mod_mod])
theorem wq_nat (x : Nat) : (#[.int .u64 (dgl (x) 0 : Nat), .int .u64 (dgl (x) 1 : Nat), .int .u64 (dgl (x) 2 : Nat), .int .u64 (dgl (x) 3 : Nat), .int .u64 (dgl (x) 4 : Nat), .int .u64 (dgl (x) 5 : Nat), .int .u64 (dgl (x) 6 : Nat), .int .u64 (dgl (x) 7 : Nat)] : Array Value) = #[.int .u64 (dgl (qz (x : Int)) 0 : Nat), .int .u64 (dgl (qz (x : Int)) 1 : Nat), .int .u64 (dgl (qz (x : Int)) 2 : Nat), .int .u64 (dgl (qz (x : Int)) 3 : Nat), .int .u64 (dgl (qz (x : Int)) 4 : Nat), .int .u64 (dgl (qz (x : Int)) 5 : Nat), .int .u64 (dgl (qz (x : Int)) 6 : Nat), .int .u64 (dgl (qz (x : Int)) 7 : Nat)] := wq 0 (by omega)
theorem wq_shl (z : Int) (k : Nat) (hk : k ≤ 512) : (#[.int .u64 (dgl (sh (qz z) (roomI (k : Nat))) 0 : Nat), .int .u64 (dgl (sh (qz z) (roomI (k : Nat))) 1 : Nat), .int .u64 (dgl (sh (qz z) (roomI (k : Nat))) 2 : Nat), .int .u64 (dgl (sh (qz z) (roomI (k : Nat))) 3 : Nat), .int .u64 (dgl (sh (qz z) (roomI (k : Nat))) 4 : Nat), .int .u64 (dgl (sh (qz z) (roomI (k : Nat))) 5 : Nat), .int .u64 (dgl (sh (qz z) (roomI (k : Nat))) 6 : Nat), .int .u64 (dgl (sh (qz z) (roomI (k : Nat))) 7 : Nat)] : Array Value) = #[.int .u64 (dgl (qz (z * ((2 ^ k : Nat) : Int))) 0 : Nat), .int .u64 (dgl (qz (z * ((2 ^ k : Nat) : Int))) 1 : Nat), .int .u64 (dgl (qz (z * ((2 ^ k : Nat) : Int))) 2 : Nat), .int .u64 (dgl (qz (z * ((2 ^ k : Nat) : Int))) 3 : Nat), .int .u64 (dgl (qz (z * ((2 ^ k : Nat) : Int))) 4 : Nat), .int .u64 (dgl (qz (z * ((2 ^ k : Nat) : Int))) 5 : Nat), .int .u64 (dgl (qz (z * ((2 ^ k : Nat) : Int))) 6 : Nat), .int .u64 (dgl (qz (z * ((2 ^ k : Nat) : Int))) 7 : Nat)] := by
  rw [show roomI (k : Nat) = ((k : Nat) : Int) by unfold roomI; omega, sh_up]
  obtain ⟨c, hc⟩ := qz_split z
  refine wq (c * ((2 ^ k : Nat) : Int)) ?_
  rw [Int.natCast_mul, hc, Int.add_mul, Int.mul_assoc]
theorem qz_sub (a b : Int) : subQ (qz a) (qz b) = qz (a - b) := by
  have h := subW_eq (β := 18446744073709551616) (by decide) 8 (qz a) (qz b)
  have h1 : (qz b) % 18446744073709551616 ^ 8 = qz b := Nat.mod_eq_of_lt (qz_lt b)
  have h2 : (qz a) % 18446744073709551616 ^ 8 = qz a := Nat.mod_eq_of_lt (qz_lt a)
  rw [h1, h2] at h
  have h4 : subQ (qz a) (qz b) + qz b = qz a + QQ * bor 18446744073709551616 (qz a) (qz b) 8 := h
  obtain ⟨ca, hca⟩ := qz_split a
  obtain ⟨cb, hcb⟩ := qz_split b
  have h5 : ((subQ (qz a) (qz b) + qz b : Nat) : Int) = ((qz a + QQ * bor 18446744073709551616 (qz a) (qz b) 8 : Nat) : Int) := congrArg _ h4
  rw [Int.natCast_add, Int.natCast_add, Int.natCast_mul, hca, hcb] at h5
  have h3 := qz_of (x := subQ (qz a) (qz b)) (z := a - b) (ca - cb + (bor 18446744073709551616 (qz a) (qz b) 8 : Nat)) (by
    rw [Int.mul_add, Int.mul_sub]
    omega)
  rw [h3, Nat.mod_eq_of_lt (subQ_lt _ _)]
theorem qz_neg (b : Int) : subQ 0 (qz b) = qz (-b) := by
  have h := qz_sub 0 b
  rwa [qz_zero, show (0 : Int) - b = -b by omega] at h
theorem wq_mul (m : Nat) (z : Int) : (#[.int .u64 (dgl (m * qz z) 0 : Nat), .int .u64 (dgl (m * qz z) 1 : Nat), .int .u64 (dgl (m * qz z) 2 : Nat), .int .u64 (dgl (m * qz z) 3 : Nat), .int .u64 (dgl (m * qz z) 4 : Nat), .int .u64 (dgl (m * qz z) 5 : Nat), .int .u64 (dgl (m * qz z) 6 : Nat), .int .u64 (dgl (m * qz z) 7 : Nat)] : Array Value) = #[.int .u64 (dgl (qz (z * ((m : Nat) : Int))) 0 : Nat), .int .u64 (dgl (qz (z * ((m : Nat) : Int))) 1 : Nat), .int .u64 (dgl (qz (z * ((m : Nat) : Int))) 2 : Nat), .int .u64 (dgl (qz (z * ((m : Nat) : Int))) 3 : Nat), .int .u64 (dgl (qz (z * ((m : Nat) : Int))) 4 : Nat), .int .u64 (dgl (qz (z * ((m : Nat) : Int))) 5 : Nat), .int .u64 (dgl (qz (z * ((m : Nat) : Int))) 6 : Nat), .int .u64 (dgl (qz (z * ((m : Nat) : Int))) 7 : Nat)] := by
  obtain ⟨c, hc⟩ := qz_split z
  refine wq (((m : Nat) : Int) * c) ?_
  rw [Int.natCast_mul, hc, Int.mul_add, Int.mul_comm z, Int.mul_left_comm]
theorem wq_sum (x y : Int) : (#[.int .u64 (dgl (sumN [qz x, qz y] 2) 0 : Nat), .int .u64 (dgl (sumN [qz x, qz y] 2) 1 : Nat), .int .u64 (dgl (sumN [qz x, qz y] 2) 2 : Nat), .int .u64 (dgl (sumN [qz x, qz y] 2) 3 : Nat), .int .u64 (dgl (sumN [qz x, qz y] 2) 4 : Nat), .int .u64 (dgl (sumN [qz x, qz y] 2) 5 : Nat), .int .u64 (dgl (sumN [qz x, qz y] 2) 6 : Nat), .int .u64 (dgl (sumN [qz x, qz y] 2) 7 : Nat)] : Array Value) = #[.int .u64 (dgl (qz (x + y)) 0 : Nat), .int .u64 (dgl (qz (x + y)) 1 : Nat), .int .u64 (dgl (qz (x + y)) 2 : Nat), .int .u64 (dgl (qz (x + y)) 3 : Nat), .int .u64 (dgl (qz (x + y)) 4 : Nat), .int .u64 (dgl (qz (x + y)) 5 : Nat), .int .u64 (dgl (qz (x + y)) 6 : Nat), .int .u64 (dgl (qz (x + y)) 7 : Nat)] := by
  obtain ⟨c, hc⟩ := qz_split x
  obtain ⟨e, he⟩ := qz_split y
  have h : sumN [qz x, qz y] 2 = qz x + qz y := by simp [sumN, dg]
  rw [h]
  refine wq (c + e) ?_
  rw [Int.natCast_add, hc, he, Int.mul_add]
  omega
theorem qz_bit_H (z : Int) (H : Nat) (hH : QQ = 2 * H) (h1 : -(H : Int) ≤ z) (h2 : z < (H : Int)) : (qz z / H % 2 == 1) = decide (z < 0) ∧ (z < 0 → ((qz z : Nat) : Int) = z + (QQ : Int)) ∧ (0 ≤ z → ((qz z : Nat) : Int) = z) := by
  have hi := qz_int z
  have hq := qz_lt z
  by_cases h : z < 0
  · have e : z % (QQ : Int) = z + (QQ : Int) := by
      have := Int.add_mul_emod_self_left (z + (QQ : Int)) (QQ : Int) (-1)
      rw [show z + (QQ : Int) + (QQ : Int) * -1 = z by omega] at this
      rw [this]
      exact Int.emod_eq_of_lt (by omega) (by omega)
    rw [e] at hi
    have hd : qz z / H = 1 := by apply Nat.div_eq_of_lt_le <;> omega
    refine ⟨by rw [hd, decide_eq_true h]; rfl, fun _ => hi, fun g => by omega⟩
  · have e : z % (QQ : Int) = z := Int.emod_eq_of_lt (by omega) (by omega)
    rw [e] at hi
    have hd : qz z / H = 0 := Nat.div_eq_of_lt (by omega)
    refine ⟨by rw [hd, decide_eq_false h]; rfl, fun g => by omega, fun _ => hi⟩
theorem qz_bit (z : Int) (h1 : -((2 ^ 511 : Nat) : Int) ≤ z) (h2 : z < ((2 ^ 511 : Nat) : Int)) : (qz z / 2 ^ 511 % 2 == 1) = decide (z < 0) :=
  (qz_bit_H z _ (qq_half 511 _ rfl rfl) h1 h2).1
theorem qz_sar_H (z : Int) (H k : Nat) (hk : k ≤ 512) (hH : QQ = 2 * H) (h1 : -(H : Int) ≤ z) (h2 : z < (H : Int)) :
    ((((if (qz z / H % 2 == 1) = true then qz z + QQ * (18446744073709551616 ^ 16 - 1) else qz z) / 2 ^ k : Nat) : Nat) : Int) = z / ((2 ^ k : Nat) : Int) + (QQ : Int) * ((if z < 0 then (2 ^ (64 * 8 - k) * 18446744073709551616 ^ 8 : Nat) else 0 : Nat) : Int) := by
  have hb := qz_bit_H z H hH h1 h2
  rw [hb.1]
  by_cases h : z < 0
  · rw [if_pos (decide_eq_true h), if_pos h]
    have e := hb.2.1 h
    rw [zz_eq 16 rfl]
    have hp : 0 < QQ * 18446744073709551616 ^ 8 := Nat.mul_pos qq_pos (Nat.pow_pos (by decide))
    generalize (18446744073709551616 ^ 8 : Nat) = Z at *
    have e2 : ((qz z + QQ * (QQ * Z - 1) : Nat) : Int) = z + (QQ : Int) * ((QQ * Z : Nat) : Int) := by
      rw [Int.natCast_add, Int.natCast_mul, e, Int.natCast_sub (by omega), Int.mul_sub]
      omega
    have hs := qq_split k hk
    have e3 : (QQ : Int) * ((QQ * Z : Nat) : Int) = ((2 ^ k : Nat) : Int) * ((QQ : Int) * ((2 ^ (64 * 8 - k) * Z : Nat) : Int)) := by
      rw [← Int.natCast_mul, ← Int.natCast_mul, ← Int.natCast_mul]
      congr 1
      rw [Nat.mul_left_comm (2 ^ k), ← Nat.mul_assoc (2 ^ k), ← hs]
    rw [Int.natCast_ediv, e2, e3, Int.add_mul_ediv_left]
    have := Nat.two_pow_pos k
    omega
  · rw [if_neg (by rw [decide_eq_false h]; decide), if_neg h]
    rw [Int.natCast_ediv, hb.2.2 (by omega)]
    omega
theorem qz_sar_gen (z : Int) (H k : Nat) (hk : k ≤ 512) (hH : 2 ^ 511 = H) (h1 : -(H : Int) ≤ z) (h2 : z < (H : Int)) :
    ((((if (qz z / H % 2 == 1) = true then qz z + QQ * (18446744073709551616 ^ 16 - 1) else qz z) / 2 ^ k : Nat) : Nat) : Int) = z / ((2 ^ k : Nat) : Int) + (QQ : Int) * ((if z < 0 then (2 ^ (64 * 8 - k) * 18446744073709551616 ^ 8 : Nat) else 0 : Nat) : Int) :=
  qz_sar_H z H k hk (qq_half 511 H rfl hH) h1 h2
theorem wq_sar (z : Int) (k : Nat) (hk : k ≤ 512) (h1 : -((2 ^ 511 : Nat) : Int) ≤ z) (h2 : z < ((2 ^ 511 : Nat) : Int)) : (#[.int .u64 (dgl (sh (extN (qz z)) (-(roomI (k : Nat)))) 0 : Nat), .int .u64 (dgl (sh (extN (qz z)) (-(roomI (k : Nat)))) 1 : Nat), .int .u64 (dgl (sh (extN (qz z)) (-(roomI (k : Nat)))) 2 : Nat), .int .u64 (dgl (sh (extN (qz z)) (-(roomI (k : Nat)))) 3 : Nat), .int .u64 (dgl (sh (extN (qz z)) (-(roomI (k : Nat)))) 4 : Nat), .int .u64 (dgl (sh (extN (qz z)) (-(roomI (k : Nat)))) 5 : Nat), .int .u64 (dgl (sh (extN (qz z)) (-(roomI (k : Nat)))) 6 : Nat), .int .u64 (dgl (sh (extN (qz z)) (-(roomI (k : Nat)))) 7 : Nat)] : Array Value) = #[.int .u64 (dgl (qz (z / ((2 ^ k : Nat) : Int))) 0 : Nat), .int .u64 (dgl (qz (z / ((2 ^ k : Nat) : Int))) 1 : Nat), .int .u64 (dgl (qz (z / ((2 ^ k : Nat) : Int))) 2 : Nat), .int .u64 (dgl (qz (z / ((2 ^ k : Nat) : Int))) 3 : Nat), .int .u64 (dgl (qz (z / ((2 ^ k : Nat) : Int))) 4 : Nat), .int .u64 (dgl (qz (z / ((2 ^ k : Nat) : Int))) 5 : Nat), .int .u64 (dgl (qz (z / ((2 ^ k : Nat) : Int))) 6 : Nat), .int .u64 (dgl (qz (z / ((2 ^ k : Nat) : Int))) 7 : Nat)] := by
  rw [show roomI (k : Nat) = ((k : Nat) : Int) by unfold roomI; omega, sh_down]
  exact wq _ (qz_sar_gen z _ k hk rfl h1 h2)
theorem qz_low (z : Int) (h1 : -9223372036854775808 ≤ z) (h2 : z < 9223372036854775808) : ((dgl (qz z) 0 : Nat) : Int) = z % 18446744073709551616 := by
  have e : dgl (qz z) 0 = qz z % 18446744073709551616 := by unfold dgl; simp
  obtain ⟨c, hc⟩ := qz_split z
  have hQ : (QQ : Int) = 18446744073709551616 * ((18446744073709551616 ^ 7 : Nat) : Int) := by
    have : QQ = 18446744073709551616 * 18446744073709551616 ^ 7 := by decide +kernel
    rw [this, Int.natCast_mul]
    rfl
  rw [e, Int.natCast_emod, hc, hQ, Int.mul_assoc]
  exact Int.add_mul_emod_self_left _ _ _
theorem qz_low64 (z : Int) (h1 : -9223372036854775808 ≤ z) (h2 : z < 9223372036854775808) : IntKind.i64.wrap ((dgl (qz z) 0 : Nat) : Int) = z := by
  rw [qz_low z h1 h2, IntKind.wrap_i64]
  omega
end Go.Proofs.Ytbngaajhdaciaaa

/- Contracts: times, whole of the packages srt (A) and srtroot (B). -/
set_option linter.unusedVariables false
set_option linter.unusedSimpArgs false
set_option maxRecDepth 8000
namespace Go.Proofs.Ytbngaajhdaciaaa
open Go.RowKit Plain

/-- What times goes by: the number, its result. -/
structure TmSt (x : Nat) (w W : World) : Prop where
  lx : LiesF W w.heap.size (dgl x)
  lr : LiesF W (w.heap.size + 1) (fun _ => 0)
  fr : ∀ i, W.frozen? ⟨w.heap.size + 1, i, none⟩ = false
  bel : Below w.heap.size w W
theorem TmSt.below {x : Nat} {w W W' : World} (h : TmSt x w W) (hb : Below W.heap.size W W') : TmSt x w W' :=
  ⟨h.lx.below hb, h.lr.below hb, fun i => (hb.frozen (p := ⟨w.heap.size + 1, i, none⟩) h.lr.2).trans (h.fr i), below_trans h.bel hb⟩
theorem tm_start (w : World) (x : Nat) (e1 e2 : TypeId) : TmSt x w ((w.alloc (.cells #[.int .u64 (dgl (x) 0 : Nat), .int .u64 (dgl (x) 1 : Nat), .int .u64 (dgl (x) 2 : Nat), .int .u64 (dgl (x) 3 : Nat), .int .u64 (dgl (x) 4 : Nat), .int .u64 (dgl (x) 5 : Nat), .int .u64 (dgl (x) 6 : Nat), .int .u64 (dgl (x) 7 : Nat)] e1)).alloc (.cells #[.int .u64 0, .int .u64 0, .int .u64 0, .int .u64 0, .int .u64 0, .int .u64 0, .int .u64 0, .int .u64 0] e2)) := by
  have h2 := liesF_new (w.alloc (.cells #[.int .u64 (dgl (x) 0 : Nat), .int .u64 (dgl (x) 1 : Nat), .int .u64 (dgl (x) 2 : Nat), .int .u64 (dgl (x) 3 : Nat), .int .u64 (dgl (x) 4 : Nat), .int .u64 (dgl (x) 5 : Nat), .int .u64 (dgl (x) 6 : Nat), .int .u64 (dgl (x) 7 : Nat)] e1)) (fun _ => 0) e2
  rw [World.size_alloc] at h2
  exact ⟨(liesF_new w (dgl x) e1).alloc _, h2, fun i => by simp [go_sem], below_trans (below_allocs _ _) (below_allocs _ _)⟩
theorem fld_loS (x y : Value) (w : World) : (Instr.field 107 (.agg #[x, y]) 1).run Try.prog w = .ok y w := by
  have h64 := Try.underlying22
  have hg := Try.isAgg22
  simp [Instr.field, asAgg, go_sem, run_underlying Try.underlying107]

set_option maxHeartbeats 1000000 in
theorem timesB_walkP (x y r : Nat) (k : Int) (m : Nat) (t : Bool) (hk : 0 ≤ k) (hk2 : -2 ≤ k) (hk3 : k ≤ 2) (hm : IntKind.u64.wrap (max k (-k)) = ((m : Nat) : Int))
    (HSM : Hid (∀ w, Calls Try.prog 68 #[.agg #[.int .u64 (dgl (x) 0 : Nat), .int .u64 (dgl (x) 1 : Nat), .int .u64 (dgl (x) 2 : Nat), .int .u64 (dgl (x) 3 : Nat), .int .u64 (dgl (x) 4 : Nat), .int .u64 (dgl (x) 5 : Nat), .int .u64 (dgl (x) 6 : Nat), .int .u64 (dgl (x) 7 : Nat)], .int .u64 (m : Nat)] w fun e w' => e = .returned (.tuple #[.agg #[.int .u64 (dgl (y) 0 : Nat), .int .u64 (dgl (y) 1 : Nat), .int .u64 (dgl (y) 2 : Nat), .int .u64 (dgl (y) 3 : Nat), .int .u64 (dgl (y) 4 : Nat), .int .u64 (dgl (y) 5 : Nat), .int .u64 (dgl (y) 6 : Nat), .int .u64 (dgl (y) 7 : Nat)], .bool t]) ∧ Below w.heap.size w w')) (w : World) :
    Calls Try.prog 53 #[.agg #[.int .u64 (dgl (x) 0 : Nat), .int .u64 (dgl (x) 1 : Nat), .int .u64 (dgl (x) 2 : Nat), .int .u64 (dgl (x) 3 : Nat), .int .u64 (dgl (x) 4 : Nat), .int .u64 (dgl (x) 5 : Nat), .int .u64 (dgl (x) 6 : Nat), .int .u64 (dgl (x) 7 : Nat)], .int .i64 k] w fun e w' => e = .returned (.agg #[.int .u64 (dgl (y) 0 : Nat), .int .u64 (dgl (y) 1 : Nat), .int .u64 (dgl (y) 2 : Nat), .int .u64 (dgl (y) 3 : Nat), .int .u64 (dgl (y) 4 : Nat), .int .u64 (dgl (y) 5 : Nat), .int .u64 (dgl (y) 6 : Nat), .int .u64 (dgl (y) 7 : Nat)]) ∧ Below w.heap.size w w' := by
  have HS := hide (tm_start w x 24 24)
  have hng : IntKind.i64.wrap (-k) = -k := by rw [IntKind.wrap_i64]; omega
  go_enter Try.func53, Try.ntmps53
  go_upto_region 1 with fail
  refine wp_gen (fun W => TmSt x w W) ?_ ?_
  · exact HS.out
  clear HS
  rintro W1 h1
  have HS := hide h1
  have hl := h1.lx.1
  clear h1
  go_wp2_with fail
  refine (HSM.out _).mono ?_
  rintro e w2 ⟨rfl, hb2⟩
  replace HS := hide (HS.out.below hb2)
  clear hb2 hl
  go_upto_region 2 with fail
  refine wp_gen (fun W => TmSt x w W ∧ LiesF W w2.heap.size (dgl y)) ⟨HS.out.below (below_allocs _ _), liesF_new w2 (dgl y) _⟩ ?_
  clear HS
  generalize w2.heap.size = p5 at *
  rintro W3 h3
  have HS := hide h3
  have hl := h3.2.1
  clear h3
  have hn : ¬ k < 0 := by omega
  have hr1 := HS.out.1.lr.1
  have hrl1 := HS.out.1.lr.2
  have hrf1 := HS.out.1.fr
  have HBE := hide HS.out.1.bel
  clear HS
  go_wp2
  exact bodyPost_ret (v := .agg #[.int .u64 (dgl (y) 0 : Nat), .int .u64 (dgl (y) 1 : Nat), .int .u64 (dgl (y) 2 : Nat), .int .u64 (dgl (y) 3 : Nat), .int .u64 (dgl (y) 4 : Nat), .int .u64 (dgl (y) 5 : Nat), .int .u64 (dgl (y) 6 : Nat), .int .u64 (dgl (y) 7 : Nat)]) (by simp [results, Try.results53, go_sem, hr1, hrl1]) rfl ⟨rfl, below_set8 HBE.out _ (by omega) _ _ _ _ _ _ _ _⟩

set_option maxHeartbeats 1000000 in
theorem timesB_walkN (x y r : Nat) (k : Int) (m : Nat) (t : Bool) (hk : k < 0) (hk2 : -2 ≤ k) (hk3 : k ≤ 2) (hm : IntKind.u64.wrap (max k (-k)) = ((m : Nat) : Int))
    (HSM : Hid (∀ w, Calls Try.prog 68 #[.agg #[.int .u64 (dgl (x) 0 : Nat), .int .u64 (dgl (x) 1 : Nat), .int .u64 (dgl (x) 2 : Nat), .int .u64 (dgl (x) 3 : Nat), .int .u64 (dgl (x) 4 : Nat), .int .u64 (dgl (x) 5 : Nat), .int .u64 (dgl (x) 6 : Nat), .int .u64 (dgl (x) 7 : Nat)], .int .u64 (m : Nat)] w fun e w' => e = .returned (.tuple #[.agg #[.int .u64 (dgl (y) 0 : Nat), .int .u64 (dgl (y) 1 : Nat), .int .u64 (dgl (y) 2 : Nat), .int .u64 (dgl (y) 3 : Nat), .int .u64 (dgl (y) 4 : Nat), .int .u64 (dgl (y) 5 : Nat), .int .u64 (dgl (y) 6 : Nat), .int .u64 (dgl (y) 7 : Nat)], .bool t]) ∧ Below w.heap.size w w'))
    (HNG : Hid (∀ w, Calls Try.prog 69 #[.agg #[.int .u64 (dgl (y) 0 : Nat), .int .u64 (dgl (y) 1 : Nat), .int .u64 (dgl (y) 2 : Nat), .int .u64 (dgl (y) 3 : Nat), .int .u64 (dgl (y) 4 : Nat), .int .u64 (dgl (y) 5 : Nat), .int .u64 (dgl (y) 6 : Nat), .int .u64 (dgl (y) 7 : Nat)]] w fun e w' => e = .returned (.agg #[.int .u64 (dgl (r) 0 : Nat), .int .u64 (dgl (r) 1 : Nat), .int .u64 (dgl (r) 2 : Nat), .int .u64 (dgl (r) 3 : Nat), .int .u64 (dgl (r) 4 : Nat), .int .u64 (dgl (r) 5 : Nat), .int .u64 (dgl (r) 6 : Nat), .int .u64 (dgl (r) 7 : Nat)]) ∧ Below w.heap.size w w')) (w : World) :
    Calls Try.prog 53 #[.agg #[.int .u64 (dgl (x) 0 : Nat), .int .u64 (dgl (x) 1 : Nat), .int .u64 (dgl (x) 2 : Nat), .int .u64 (dgl (x) 3 : Nat), .int .u64 (dgl (x) 4 : Nat), .int .u64 (dgl (x) 5 : Nat), .int .u64 (dgl (x) 6 : Nat), .int .u64 (dgl (x) 7 : Nat)], .int .i64 k] w fun e w' => e = .returned (.agg #[.int .u64 (dgl (r) 0 : Nat), .int .u64 (dgl (r) 1 : Nat), .int .u64 (dgl (r) 2 : Nat), .int .u64 (dgl (r) 3 : Nat), .int .u64 (dgl (r) 4 : Nat), .int .u64 (dgl (r) 5 : Nat), .int .u64 (dgl (r) 6 : Nat), .int .u64 (dgl (r) 7 : Nat)]) ∧ Below w.heap.size w w' := by
  have HS := hide (tm_start w x 24 24)
  have hng : IntKind.i64.wrap (-k) = -k := by rw [IntKind.wrap_i64]; omega
  go_enter Try.func53, Try.ntmps53
  go_upto_region 1 with fail
  refine wp_gen (fun W => TmSt x w W) ?_ ?_
  · exact HS.out
  clear HS
  rintro W1 h1
  have HS := hide h1
  have hl := h1.lx.1
  clear h1
  go_wp2_with fail
  refine (HSM.out _).mono ?_
  rintro e w2 ⟨rfl, hb2⟩
  replace HS := hide (HS.out.below hb2)
  clear hb2 hl
  go_upto_region 2 with fail
  refine wp_gen (fun W => TmSt x w W ∧ LiesF W w2.heap.size (dgl y)) ⟨HS.out.below (below_allocs _ _), liesF_new w2 (dgl y) _⟩ ?_
  clear HS
  generalize w2.heap.size = p5 at *
  rintro W3 h3
  have HS := hide h3
  have hl := h3.2.1
  clear h3
  go_wp2_with fail
  refine (HNG.out _).mono ?_
  rintro e w4 ⟨rfl, hb4⟩
  replace HS := hide (show TmSt x w w4 ∧ LiesF w4 p5 (dgl y) from ⟨HS.out.1.below hb4, HS.out.2.below hb4⟩)
  clear hb4 hl
  have hr1 := HS.out.1.lr.1
  have hrl1 := HS.out.1.lr.2
  have hrf1 := HS.out.1.fr
  have HBE := hide HS.out.1.bel
  clear HS
  go_wp2
  exact bodyPost_ret (v := .agg #[.int .u64 (dgl (r) 0 : Nat), .int .u64 (dgl (r) 1 : Nat), .int .u64 (dgl (r) 2 : Nat), .int .u64 (dgl (r) 3 : Nat), .int .u64 (dgl (r) 4 : Nat), .int .u64 (dgl (r) 5 : Nat), .int .u64 (dgl (r) 6 : Nat), .int .u64 (dgl (r) 7 : Nat)]) (by simp [results, Try.results53, go_sem, hr1, hrl1]) rfl ⟨rfl, below_set8 HBE.out _ (by omega) _ _ _ _ _ _ _ _⟩

theorem timesB_any (z k : Int) (h1 : -2 ≤ k) (h2 : k ≤ 2) (w : World) :
    Calls Try.prog 53 #[.agg #[.int .u64 (dgl (qz z) 0 : Nat), .int .u64 (dgl (qz z) 1 : Nat), .int .u64 (dgl (qz z) 2 : Nat), .int .u64 (dgl (qz z) 3 : Nat), .int .u64 (dgl (qz z) 4 : Nat), .int .u64 (dgl (qz z) 5 : Nat), .int .u64 (dgl (qz z) 6 : Nat), .int .u64 (dgl (qz z) 7 : Nat)], .int .i64 k] w fun e w' => e = .returned (.agg #[.int .u64 (dgl (qz (k * z)) 0 : Nat), .int .u64 (dgl (qz (k * z)) 1 : Nat), .int .u64 (dgl (qz (k * z)) 2 : Nat), .int .u64 (dgl (qz (k * z)) 3 : Nat), .int .u64 (dgl (qz (k * z)) 4 : Nat), .int .u64 (dgl (qz (k * z)) 5 : Nat), .int .u64 (dgl (qz (k * z)) 6 : Nat), .int .u64 (dgl (qz (k * z)) 7 : Nat)]) ∧ Below w.heap.size w w' := by
  obtain ⟨m, hm⟩ : ∃ m : Nat, (m : Int) = max k (-k) := ⟨(max k (-k)).toNat, by omega⟩
  have hmw : IntKind.u64.wrap (max k (-k)) = ((m : Nat) : Int) := by rw [IntKind.wrap_u64]; omega
  have HSM : Hid (∀ w, Calls Try.prog 68 #[.agg #[.int .u64 (dgl (qz z) 0 : Nat), .int .u64 (dgl (qz z) 1 : Nat), .int .u64 (dgl (qz z) 2 : Nat), .int .u64 (dgl (qz z) 3 : Nat), .int .u64 (dgl (qz z) 4 : Nat), .int .u64 (dgl (qz z) 5 : Nat), .int .u64 (dgl (qz z) 6 : Nat), .int .u64 (dgl (qz z) 7 : Nat)], .int .u64 (m : Nat)] w fun e w' => e = .returned (.tuple #[.agg #[.int .u64 (dgl (qz (z * ((m : Nat) : Int))) 0 : Nat), .int .u64 (dgl (qz (z * ((m : Nat) : Int))) 1 : Nat), .int .u64 (dgl (qz (z * ((m : Nat) : Int))) 2 : Nat), .int .u64 (dgl (qz (z * ((m : Nat) : Int))) 3 : Nat), .int .u64 (dgl (qz (z * ((m : Nat) : Int))) 4 : Nat), .int .u64 (dgl (qz (z * ((m : Nat) : Int))) 5 : Nat), .int .u64 (dgl (qz (z * ((m : Nat) : Int))) 6 : Nat), .int .u64 (dgl (qz (z * ((m : Nat) : Int))) 7 : Nat)], .bool (decide (m * qz z < QQ))]) ∧ Below w.heap.size w w') := fun w => by
    have h := prodSmall_any (qz z) m (qz_lt z) (by omega) w
    rwa [wq_mul] at h
  by_cases hk : k < 0
  · have HNG : Hid (∀ w, Calls Try.prog 69 #[.agg #[.int .u64 (dgl (qz (z * ((m : Nat) : Int))) 0 : Nat), .int .u64 (dgl (qz (z * ((m : Nat) : Int))) 1 : Nat), .int .u64 (dgl (qz (z * ((m : Nat) : Int))) 2 : Nat), .int .u64 (dgl (qz (z * ((m : Nat) : Int))) 3 : Nat), .int .u64 (dgl (qz (z * ((m : Nat) : Int))) 4 : Nat), .int .u64 (dgl (qz (z * ((m : Nat) : Int))) 5 : Nat), .int .u64 (dgl (qz (z * ((m : Nat) : Int))) 6 : Nat), .int .u64 (dgl (qz (z * ((m : Nat) : Int))) 7 : Nat)]] w fun e w' => e = .returned (.agg #[.int .u64 (dgl (qz (k * z)) 0 : Nat), .int .u64 (dgl (qz (k * z)) 1 : Nat), .int .u64 (dgl (qz (k * z)) 2 : Nat), .int .u64 (dgl (qz (k * z)) 3 : Nat), .int .u64 (dgl (qz (k * z)) 4 : Nat), .int .u64 (dgl (qz (k * z)) 5 : Nat), .int .u64 (dgl (qz (k * z)) 6 : Nat), .int .u64 (dgl (qz (k * z)) 7 : Nat)]) ∧ Below w.heap.size w w') := fun w => by
      have h := wideNeg_any (qz (z * ((m : Nat) : Int))) (qz_lt _) w
      rw [qz_neg, show -(z * ((m : Nat) : Int)) = k * z by rw [hm, show max k (-k) = -k by omega, Int.mul_neg, Int.neg_neg, Int.mul_comm]] at h
      exact h
    exact timesB_walkN _ _ _ k m _ hk h1 h2 hmw HSM HNG w
  · have h := timesB_walkP _ _ 0 k m _ (by omega) h1 h2 hmw HSM w
    rwa [show z * ((m : Nat) : Int) = k * z by rw [hm, show max k (-k) = k by omega, Int.mul_comm]] at h
theorem wholeB_walk (x : Nat) (z : Int) (hz : IntKind.i64.wrap ((dgl x 0 : Nat) : Int) = z)
    (HLW : Hid (∀ w, Calls Try.prog 82 #[.agg #[.int .u64 (dgl (x) 0 : Nat), .int .u64 (dgl (x) 1 : Nat), .int .u64 (dgl (x) 2 : Nat), .int .u64 (dgl (x) 3 : Nat), .int .u64 (dgl (x) 4 : Nat), .int .u64 (dgl (x) 5 : Nat), .int .u64 (dgl (x) 6 : Nat), .int .u64 (dgl (x) 7 : Nat)]] w fun e w' => e = .returned (.agg #[.int .u64 (dgl x 1 : Nat), .int .u64 (dgl x 0 : Nat)]) ∧ Below w.heap.size w w')) (w : World) :
    Calls Try.prog 65 #[.agg #[.int .u64 (dgl (x) 0 : Nat), .int .u64 (dgl (x) 1 : Nat), .int .u64 (dgl (x) 2 : Nat), .int .u64 (dgl (x) 3 : Nat), .int .u64 (dgl (x) 4 : Nat), .int .u64 (dgl (x) 5 : Nat), .int .u64 (dgl (x) 6 : Nat), .int .u64 (dgl (x) 7 : Nat)]] w fun e w' => e = .returned (.int .i64 z) ∧ Below w.heap.size w w' := by
  have HB := hide (below_allocs w (.cells #[.int .u64 (dgl (x) 0 : Nat), .int .u64 (dgl (x) 1 : Nat), .int .u64 (dgl (x) 2 : Nat), .int .u64 (dgl (x) 3 : Nat), .int .u64 (dgl (x) 4 : Nat), .int .u64 (dgl (x) 5 : Nat), .int .u64 (dgl (x) 6 : Nat), .int .u64 (dgl (x) 7 : Nat)] 24))
  have hl := (liesF_new w (dgl x) 24).1
  have hfd := fun w => fld_loS (.int .u64 (dgl x 1 : Nat)) (.int .u64 (dgl x 0 : Nat)) w
  go_enter Try.func65, Try.ntmps65
  go_wp2_with fail
  refine (HLW.out _).mono ?_
  rintro e w5 ⟨rfl, hb5⟩
  replace HB := hide (below_trans HB.out hb5)
  clear hb5 hl
  go_wp2
  exact bodyPost_ret (v := .int .i64 z) (by simp [results, Try.results65, go_sem, hz]) rfl ⟨rfl, HB.out⟩
theorem wholeB_any (z : Int) (h1 : -9223372036854775808 ≤ z) (h2 : z < 9223372036854775808) (w : World) :
    Calls Try.prog 65 #[.agg #[.int .u64 (dgl (qz z) 0 : Nat), .int .u64 (dgl (qz z) 1 : Nat), .int .u64 (dgl (qz z) 2 : Nat), .int .u64 (dgl (qz z) 3 : Nat), .int .u64 (dgl (qz z) 4 : Nat), .int .u64 (dgl (qz z) 5 : Nat), .int .u64 (dgl (qz z) 6 : Nat), .int .u64 (dgl (qz z) 7 : Nat)]] w fun e w' => e = .returned (.int .i64 z) ∧ Below w.heap.size w w' :=
  wholeB_walk (qz z) z (qz_low64 z h1 h2) (hide fun w => wideLow_any (dgl (qz z)) w) w
end Go.Proofs.Ytbngaajhdaciaaa

/- What radicandref15.Sub goes by. -/
set_option linter.unusedVariables false
set_option linter.unusedSimpArgs false
set_option maxRecDepth 8000
namespace Go.Proofs.Ytbngaajhdaciaaa
open Go.RowKit Plain

theorem bgs_slice {W : World} {v : Value} {s K : Nat} (h : BigV W v s K) : ∃ ao l ca, v = .slice ao l ca := by
  obtain ⟨l, ⟨ao, ca, rfl, -⟩, -⟩ := h
  exact ⟨_, _, _, rfl⟩
/-- A number with a sign: what a slot holds. -/
def SlotIs.sg (n K : Nat) (b : Bool) (B : Nat) : SlotIs := ⟨fun v w => ∃ u, v = .agg #[u, .bool b] ∧ BigV w u n K ∧ Fresh B u, fun v w w' hb ⟨u, h1, h2, h3⟩ => ⟨u, h1, h2.below hb, h3⟩⟩
def SlotIs.bigF (n K B : Nat) : SlotIs := ⟨fun v w => BigV w v n K ∧ Fresh B v, fun v w w' hb h => ⟨h.1.below hb, h.2⟩⟩
/-- A number's row isn't a block that holds a slice and a bool. -/
theorem BigV.set2 {W : World} {v : Value} {n K R : Nat} (h : BigV W v n K) (c0 : ∃ ao l ca, W.cell? ⟨R, 0, none⟩ = some (.slice ao l ca)) (c1 : ∃ b, W.cell? ⟨R, 1, none⟩ = some (.bool b)) (c2 : ∀ k, 2 ≤ k → W.cell? ⟨R, k, none⟩ = none) (x y : Value) :
    BigV ((W.setCell ⟨R, 0, none⟩ x).setCell ⟨R, 1, none⟩ y) v n K := by
  obtain ⟨l, ⟨ao, ca, rfl, hc, hm, hr⟩, hd, hn, hk⟩ := h
  refine ⟨l, ⟨ao, ca, rfl, hc, hm, ?_⟩, hd, hn, hk⟩
  rcases hr with hr | ⟨b, off, rfl, hlt, hcell⟩
  · exact .inl hr
  · by_cases h0 : l.length = 0
    · exact .inl h0
    · have hne : b ≠ R := by
        rintro rfl
        have h1 := hcell 0 (by omega)
        rw [Nat.add_zero] at h1
        match off with
        | 0 => obtain ⟨_, _, _, h2⟩ := c0; rw [h1] at h2; simp [mk32] at h2
        | 1 => obtain ⟨_, h2⟩ := c1; rw [h1] at h2; simp [mk32] at h2
        | off + 2 => rw [c2 (off + 2) (by omega)] at h1; cases h1
      exact .inr ⟨b, off, rfl, by simpa [go_sem] using hlt, fun i hi => by simp [go_sem, hne, hcell i hi]⟩

structure Sb15 (v1 v2 : Value) (na nb : Bool) (x y K L : Nat) (w W : World) : Prop where
  a0 : W.cell? ⟨w.heap.size, 0, none⟩ = some v1
  a1 : W.cell? ⟨w.heap.size, 1, none⟩ = some (.bool na)
  b0 : W.cell? ⟨w.heap.size + 1, 0, none⟩ = some v2
  b1 : W.cell? ⟨w.heap.size + 1, 1, none⟩ = some (.bool nb)
  bx : BigV w v1 x K
  bY : BigV w v2 y L
  r0 : ∃ ao l ca, W.cell? ⟨w.heap.size + 2, 0, none⟩ = some (.slice ao l ca)
  r1 : ∃ b, W.cell? ⟨w.heap.size + 2, 1, none⟩ = some (.bool b)
  n2 : ∀ k, 2 ≤ k → W.cell? ⟨w.heap.size + 2, k, none⟩ = none
  fr : ∀ i, W.frozen? ⟨w.heap.size + 2, i, none⟩ = false
  lt : w.heap.size + 2 < W.heap.size
  bel : Below w.heap.size w W
section
variable {v1 v2 : Value} {na nb : Bool} {x y K L : Nat} {w W W' : World}
theorem Sb15.below (h : Sb15 v1 v2 na nb x y K L w W) (hb : Below W.heap.size W W') : Sb15 v1 v2 na nb x y K L w W' := by
  have hl := h.lt
  obtain ⟨a, b, c, r0⟩ := h.r0
  obtain ⟨d, r1⟩ := h.r1
  exact ⟨(hb.cell (p := ⟨w.heap.size, 0, none⟩) (show w.heap.size < _ by omega)).trans h.a0, (hb.cell (p := ⟨w.heap.size, 1, none⟩) (show w.heap.size < _ by omega)).trans h.a1, (hb.cell (p := ⟨w.heap.size + 1, 0, none⟩) (show w.heap.size + 1 < _ by omega)).trans h.b0, (hb.cell (p := ⟨w.heap.size + 1, 1, none⟩) (show w.heap.size + 1 < _ by omega)).trans h.b1, h.bx, h.bY, ⟨a, b, c, (hb.cell (p := ⟨w.heap.size + 2, 0, none⟩) hl).trans r0⟩, ⟨d, (hb.cell (p := ⟨w.heap.size + 2, 1, none⟩) hl).trans r1⟩, fun k hk => (hb.cell (p := ⟨w.heap.size + 2, k, none⟩) hl).trans (h.n2 k hk), fun i => (hb.frozen (p := ⟨w.heap.size + 2, i, none⟩) hl).trans (h.fr i), Nat.lt_of_lt_of_le hl hb.size, below_trans h.bel hb⟩
theorem Sb15.gx (h : Sb15 v1 v2 na nb x y K L w W) : BigV W v1 x K := h.bx.below h.bel
theorem Sb15.gy (h : Sb15 v1 v2 na nb x y K L w W) : BigV W v2 y L := h.bY.below h.bel
theorem Sb15.set (h : Sb15 v1 v2 na nb x y K L w W) (o : Option Addr) (l c : Nat) (b : Bool) : Sb15 v1 v2 na nb x y K L w ((W.setCell ⟨w.heap.size + 2, 0, none⟩ (.slice o l c)).setCell ⟨w.heap.size + 2, 1, none⟩ (.bool b)) := by
  obtain ⟨a0, a1, a2, r0⟩ := h.r0
  obtain ⟨d, r1⟩ := h.r1
  have hl := h.lt
  have e0 := h.a0
  have e1 := h.a1
  have e2 := h.b0
  have e3 := h.b1
  refine ⟨by simp [go_sem, e0], by simp [go_sem, e1], by simp [go_sem, e2], by simp [go_sem, e3], h.bx, h.bY, ⟨o, l, c, by simp [go_sem, r0, hl]⟩, ⟨b, by simp [go_sem, r1, hl]⟩, fun k hk => ?_, fun i => by simpa [go_sem] using h.fr i, by simpa [go_sem] using h.lt, (h.bel.setCell (p := ⟨w.heap.size + 2, 0, none⟩) (Nat.le_add_right _ 2) _).setCell (p := ⟨w.heap.size + 2, 1, none⟩) (Nat.le_add_right _ 2) _⟩
  have := h.n2 k hk
  have k0 : k ≠ 0 := by omega
  have k1 : k ≠ 1 := by omega
  simp [go_sem, this, k0, k1]
end
theorem sb15_start (o1 o2 : Option Addr) (l1 c1 l2 c2 : Nat) (na nb : Bool) (x y K L : Nat) (w : World) (hx : BigV w (.slice o1 l1 c1) x K) (hy : BigV w (.slice o2 l2 c2) y L) (e1 e2 e3 : TypeId) :
    Sb15 (.slice o1 l1 c1) (.slice o2 l2 c2) na nb x y K L w (((w.alloc (.cells #[.slice o1 l1 c1, .bool na] e1)).alloc (.cells #[.slice o2 l2 c2, .bool nb] e2)).alloc (.cells #[.slice none 0 0, .bool false] e3)) := by
  refine ⟨by simp [go_sem], by simp [go_sem], by simp [go_sem], by simp [go_sem], hx, hy, ⟨none, 0, 0, by simp [go_sem]⟩, ⟨false, by simp [go_sem]⟩, fun k hk => ?_, fun i => by simp [go_sem], by simp, below_trans (below_trans ((Below.refl _ _).alloc (Nat.le_refl _) _) ((Below.refl _ _).alloc (Nat.le_refl _) _)) ((Below.refl _ _).alloc (Nat.le_refl _) _)⟩
  match k, hk with
  | k + 2, _ => simp [go_sem]
end Go.Proofs.Ytbngaajhdaciaaa

