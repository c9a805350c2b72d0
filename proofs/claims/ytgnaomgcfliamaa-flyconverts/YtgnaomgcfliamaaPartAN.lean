/- Contracts and laws: FlyG, FlyH, FlyK, FlyL, GrowQ. -/
import Derived.Test.YtgnaomgcfliamaaPartAM
import Derived.Test.YtgnaomgcfliamaaPartAL
/- Contracts: fly.split. -/
set_option linter.unusedVariables false
set_option linter.unusedSimpArgs false
set_option maxRecDepth 8000
namespace Go.Proofs.Ytgnaomgcfliamaa
open Go.RowKit Plain

/-- A number's last digit, from -1 to 2, and what is left. -/
def spD (a : Nat) : Int := if a % 4 = 3 then -1 else ((a % 4 : Nat) : Int)
def spQ (a : Nat) : Nat := if a % 4 = 3 then a / 4 + 1 else a / 4
theorem sp_eq (a : Nat) : (a : Int) = 4 * (spQ a : Int) + spD a := by
  unfold spD spQ
  split <;> omega
theorem spD_bd (a : Nat) : -1 ≤ spD a ∧ spD a ≤ 2 := by unfold spD; split <;> omega
theorem spQ_lt {a : Nat} (h : a < QQ) : spQ a < QQ := by
  have := qq_big
  unfold spQ
  split <;> omega
theorem dgl_mod4 (a : Nat) : ((dgl a 0 : Nat) : Int) % 4 = ((a % 4 : Nat) : Int) := by
  unfold dgl
  rw [Nat.pow_zero, Nat.div_one]
  omega

theorem fld_lo (x y : Value) (w : World) : (Instr.field 74 (.agg #[x, y]) 1).run Try.prog w = .ok y w := by
  have h64 := Try.underlying24
  have hg := Try.isAgg24
  simp [Instr.field, asAgg, go_sem, run_underlying Try.underlying74]

/-- What split goes by: its number, and its result. -/
structure SpSt (a x : Nat) (w W : World) : Prop where
  la : LiesF W w.heap.size (dgl a)
  lr : LiesF W (w.heap.size + 1) (dgl x)
  fr : ∀ i, W.frozen? ⟨w.heap.size + 1, i, none⟩ = false
  bel : Below w.heap.size w W
theorem SpSt.under {a x : Nat} {w W W' : World} (h : SpSt a x w W) {C : Nat} (hb : Below C W W') (hc : w.heap.size + 1 < C) : SpSt a x w W' :=
  ⟨lies_box h.la hb (by omega), lies_box h.lr hb hc, fun i => (hb.frozen (p := ⟨w.heap.size + 1, i, none⟩) hc).trans (h.fr i), h.bel.trans (hb.mono (by omega))⟩
theorem SpSt.below {a x : Nat} {w W W' : World} (h : SpSt a x w W) (hb : Below W.heap.size W W') : SpSt a x w W' := h.under hb h.lr.2
theorem SpSt.set {a x : Nat} {w W : World} (h : SpSt a x w W) (y : Nat) : SpSt a y w ((((((((W.setCell ⟨w.heap.size + 1, 0, none⟩ (.int .u64 (dgl y 0 : Nat))).setCell ⟨w.heap.size + 1, 1, none⟩ (.int .u64 (dgl y 1 : Nat))).setCell ⟨w.heap.size + 1, 2, none⟩ (.int .u64 (dgl y 2 : Nat))).setCell ⟨w.heap.size + 1, 3, none⟩ (.int .u64 (dgl y 3 : Nat))).setCell ⟨w.heap.size + 1, 4, none⟩ (.int .u64 (dgl y 4 : Nat))).setCell ⟨w.heap.size + 1, 5, none⟩ (.int .u64 (dgl y 5 : Nat))).setCell ⟨w.heap.size + 1, 6, none⟩ (.int .u64 (dgl y 6 : Nat))).setCell ⟨w.heap.size + 1, 7, none⟩ (.int .u64 (dgl y 7 : Nat))) :=
  ⟨lies_ne h.la (by omega), set8_same W _ (dgl y) (dgl x) h.lr, fun i => by simpa [go_sem] using h.fr i, below_set8 h.bel _ (by omega) _ _ _ _ _ _ _ _⟩
theorem spSt_start (a : Nat) (w : World) (e1 e2 : TypeId) : SpSt a 0 w ((w.alloc (.cells #[.int .u64 (dgl (a) 0 : Nat), .int .u64 (dgl (a) 1 : Nat), .int .u64 (dgl (a) 2 : Nat), .int .u64 (dgl (a) 3 : Nat), .int .u64 (dgl (a) 4 : Nat), .int .u64 (dgl (a) 5 : Nat), .int .u64 (dgl (a) 6 : Nat), .int .u64 (dgl (a) 7 : Nat)] e1)).alloc (.cells #[.int .u64 0, .int .u64 0, .int .u64 0, .int .u64 0, .int .u64 0, .int .u64 0, .int .u64 0, .int .u64 0] e2)) := by
  have h1 := (liesF_new w (dgl a) e1).alloc (.cells #[.int .u64 0, .int .u64 0, .int .u64 0, .int .u64 0, .int .u64 0, .int .u64 0, .int .u64 0, .int .u64 0] e2)
  have h2 := liesF_new (w.alloc (.cells #[.int .u64 (dgl (a) 0 : Nat), .int .u64 (dgl (a) 1 : Nat), .int .u64 (dgl (a) 2 : Nat), .int .u64 (dgl (a) 3 : Nat), .int .u64 (dgl (a) 4 : Nat), .int .u64 (dgl (a) 5 : Nat), .int .u64 (dgl (a) 6 : Nat), .int .u64 (dgl (a) 7 : Nat)] e1)) (fun _ => 0) e2
  rw [World.size_alloc] at h2
  exact ⟨h1, by rw [dgl_z]; exact h2, fun i => by simp [go_sem], below_trans (below_allocs _ _) (below_allocs _ _)⟩

set_option maxHeartbeats 4000000 in
theorem split_N (a q : Nat) (d : Nat) (ov : Bool) (hd : a % 4 = d ∧ d < 3)
    (HLO : Hid (∀ w, Calls Try.prog 46 #[.agg #[.int .u64 (dgl (a) 0 : Nat), .int .u64 (dgl (a) 1 : Nat), .int .u64 (dgl (a) 2 : Nat), .int .u64 (dgl (a) 3 : Nat), .int .u64 (dgl (a) 4 : Nat), .int .u64 (dgl (a) 5 : Nat), .int .u64 (dgl (a) 6 : Nat), .int .u64 (dgl (a) 7 : Nat)]] w fun e w' => e = .returned (.agg #[.int .u64 (dgl a 1 : Nat), .int .u64 (dgl a 0 : Nat)]) ∧ Below w.heap.size w w'))
    (HSR : Hid (∀ w, Calls Try.prog 47 #[.agg #[.int .u64 (dgl (a) 0 : Nat), .int .u64 (dgl (a) 1 : Nat), .int .u64 (dgl (a) 2 : Nat), .int .u64 (dgl (a) 3 : Nat), .int .u64 (dgl (a) 4 : Nat), .int .u64 (dgl (a) 5 : Nat), .int .u64 (dgl (a) 6 : Nat), .int .u64 (dgl (a) 7 : Nat)], .int .i64 2] w fun e w' => e = .returned (.tuple #[.agg #[.int .u64 (dgl (q) 0 : Nat), .int .u64 (dgl (q) 1 : Nat), .int .u64 (dgl (q) 2 : Nat), .int .u64 (dgl (q) 3 : Nat), .int .u64 (dgl (q) 4 : Nat), .int .u64 (dgl (q) 5 : Nat), .int .u64 (dgl (q) 6 : Nat), .int .u64 (dgl (q) 7 : Nat)], .bool ov]) ∧ Below w.heap.size w w')) (w : World) :
    Calls Try.prog 36 #[.agg #[.int .u64 (dgl (a) 0 : Nat), .int .u64 (dgl (a) 1 : Nat), .int .u64 (dgl (a) 2 : Nat), .int .u64 (dgl (a) 3 : Nat), .int .u64 (dgl (a) 4 : Nat), .int .u64 (dgl (a) 5 : Nat), .int .u64 (dgl (a) 6 : Nat), .int .u64 (dgl (a) 7 : Nat)]] w fun e w' => e = .returned (.tuple #[.int .i64 ((d : Nat) : Int), .agg #[.int .u64 (dgl (q) 0 : Nat), .int .u64 (dgl (q) 1 : Nat), .int .u64 (dgl (q) 2 : Nat), .int .u64 (dgl (q) 3 : Nat), .int .u64 (dgl (q) 4 : Nat), .int .u64 (dgl (q) 5 : Nat), .int .u64 (dgl (q) 6 : Nat), .int .u64 (dgl (q) 7 : Nat)]]) ∧ Below w.heap.size w w' := by
  have HS := hide (spSt_start a w 26 26)
  have hd4 : ((dgl a 0 : Nat) : Int) % 4 = ((d : Nat) : Int) := by rw [dgl_mod4]; omega
  have h3 : ¬ ((d : Nat) : Int) = 3 := by omega
  clear hd
  go_enter Try.func36, Try.ntmps36
  have hla := HS.out.la.1
  go_wp2_with fail
  refine (HLO.out _).mono ?_
  rintro e w1 ⟨rfl, hb1⟩
  replace HS := hide (HS.out.below hb1)
  clear hb1 hla
  have hla := HS.out.la.1
  have hfd := fun w => fld_lo (.int .u64 (dgl a 1 : Nat)) (.int .u64 (dgl a 0 : Nat)) w
  go_wp2_with fail
  refine (HSR.out _).mono ?_
  rintro e w2 ⟨rfl, hb2⟩
  replace HS := hide (HS.out.below hb2)
  clear hb2 hla hfd
  go_upto_region 6 with fail
  refine wp_gen (fun W => SpSt a 0 w W ∧ LiesF W w2.heap.size (dgl q)) ⟨HS.out.below (below_allocs _ _), liesF_new w2 (dgl q) _⟩ ?_
  have HNE := hide (show w.heap.size + 1 < w2.heap.size from HS.out.lr.2)
  clear HS
  generalize w2.heap.size = p5 at *
  rintro W6 h6
  have HC := hide h6
  clear h6
  refine wp_region_storeK 4 [3] [26, 27, 2] (fun bs => [(26, .val (.int .i64 ((d : Nat) : Int))), (27, .val (.agg #[.int .u64 (dgl (q) 0 : Nat), .int .u64 (dgl (q) 1 : Nat), .int .u64 (dgl (q) 2 : Nat), .int .u64 (dgl (q) 3 : Nat), .int .u64 (dgl (q) 4 : Nat), .int .u64 (dgl (q) 5 : Nat), .int .u64 (dgl (q) 6 : Nat), .int .u64 (dgl (q) 7 : Nat)])), (2, .val (.int .i64 ((d : Nat) : Int)))])
    (fun bs W => (∀ c, bs.headD false = c → SpSt a (bif c then q else 0) w W) ∧ LiesF W p5 (dgl q)) (fun bs => rfl) mixedOk (by kernel_rfl) (by kernel_rfl) (by kernel_rfl) (⟨fun c hc => by subst hc; exact HC.out.1.below (Below.refl _ _).drew, HC.out.2.below (Below.refl _ _).drew⟩) (fun bs W W' h hb => ⟨fun c hc => (h.1 c hc).below hb, h.2.below hb⟩) ?_ ?_
  · refine kSt rfl (fun φ hφ => gStep_run rfl (gRun_move 4 26 (.inl rfl) rfl (by decide +kernel) (fun v w h => h))) ?_
    refine kSt rfl (fun φ hφ => gStep_run rfl ?_) ?_
    · intro ρ W hC hc hf hL
      have e5 : ρ (.tmp 5) = .pointer (some ⟨p5, 0, none⟩) := hL 5 (by decide +kernel)
      have hl := hC.2.1
      simp [go_sem, hc, hf, e5, hl]
      exact ⟨Below.refl _ _, rfl⟩
    refine kSt rfl (fun φ hφ => gStep_run rfl (gRun_move 26 2 (.inr rfl) rfl (by decide +kernel) (fun v w h => h))) ?_
    refine kStS rfl ⟨rfl, rfl, ?_⟩ ?_
    · intro φ ρ W hφ hC hc hL
      have e3 : ρ (.tmp 3) = .pointer (some ⟨w.heap.size + 1, 0, none⟩) := hL 3 (by decide +kernel)
      have e27 : ρ (.tmp 27) = .agg #[.int .u64 (dgl (q) 0 : Nat), .int .u64 (dgl (q) 1 : Nat), .int .u64 (dgl (q) 2 : Nat), .int .u64 (dgl (q) 3 : Nat), .int .u64 (dgl (q) 4 : Nat), .int .u64 (dgl (q) 5 : Nat), .int .u64 (dgl (q) 6 : Nat), .int .u64 (dgl (q) 7 : Nat)] := hL 27 (by decide +kernel)
      have g : SpSt a 0 w W := hC.1 false (by simp [hφ])
      have hz := g.lr.1
      have hzl := g.lr.2
      have hzf := g.fr
      have hne := HNE.out
      refine gUpon_of ((((((((W.setCell ⟨w.heap.size + 1, 0, none⟩ (.int .u64 (dgl q 0 : Nat))).setCell ⟨w.heap.size + 1, 1, none⟩ (.int .u64 (dgl q 1 : Nat))).setCell ⟨w.heap.size + 1, 2, none⟩ (.int .u64 (dgl q 2 : Nat))).setCell ⟨w.heap.size + 1, 3, none⟩ (.int .u64 (dgl q 3 : Nat))).setCell ⟨w.heap.size + 1, 4, none⟩ (.int .u64 (dgl q 4 : Nat))).setCell ⟨w.heap.size + 1, 5, none⟩ (.int .u64 (dgl q 5 : Nat))).setCell ⟨w.heap.size + 1, 6, none⟩ (.int .u64 (dgl q 6 : Nat))).setCell ⟨w.heap.size + 1, 7, none⟩ (.int .u64 (dgl q 7 : Nat))) ?_ (fun _ => ?_)
      · simp [go_sem, hc, e3, e27, hz, hzl, hzf, gUpon]
      refine ⟨⟨fun c hc => ?_, lies_ne hC.2 (by omega)⟩, fun t => ?_⟩
      · have hc1 : c = true := by rw [← hc]; simp
        subst hc1
        exact g.set q
      refine (tbl_imp rfl (fun _ => val_imp) (tbl_imp rfl (fun _ => val_imp) (tbl_imp rfl (fun _ => val_imp) tbl_nil_imp)))
    exact kSt0
  · intro W hC
    refine gFi 26 rfl ?_
    rintro _ rfl
    refine gFi 27 rfl ?_
    rintro _ rfl
    refine gFi 2 rfl ?_
    rintro _ rfl
    refine gFiN rfl ?_
    refine gFi0 ?_
    simp only [List.drop_succ_cons, List.drop_zero, Act.put, List.setIfInBounds_toArray, List.set_cons_succ, List.set_cons_zero]
    have g := hC.1 true rfl
    have hr1 := g.lr.1
    have hrl1 := g.lr.2
    have HBE := hide g.bel
    clear hC g
    go_wp2
    exact bodyPost_ret (v := .tuple #[.int .i64 ((d : Nat) : Int), .agg #[.int .u64 (dgl (q) 0 : Nat), .int .u64 (dgl (q) 1 : Nat), .int .u64 (dgl (q) 2 : Nat), .int .u64 (dgl (q) 3 : Nat), .int .u64 (dgl (q) 4 : Nat), .int .u64 (dgl (q) 5 : Nat), .int .u64 (dgl (q) 6 : Nat), .int .u64 (dgl (q) 7 : Nat)]]) (by simp [results, Try.results36, go_sem, hr1, hrl1]) rfl ⟨rfl, HBE.out⟩
  

set_option maxHeartbeats 4000000 in
theorem split_T (a q : Nat) (ov ov2 : Bool) (hd : a % 4 = 3)
    (HLO : Hid (∀ w, Calls Try.prog 46 #[.agg #[.int .u64 (dgl (a) 0 : Nat), .int .u64 (dgl (a) 1 : Nat), .int .u64 (dgl (a) 2 : Nat), .int .u64 (dgl (a) 3 : Nat), .int .u64 (dgl (a) 4 : Nat), .int .u64 (dgl (a) 5 : Nat), .int .u64 (dgl (a) 6 : Nat), .int .u64 (dgl (a) 7 : Nat)]] w fun e w' => e = .returned (.agg #[.int .u64 (dgl a 1 : Nat), .int .u64 (dgl a 0 : Nat)]) ∧ Below w.heap.size w w'))
    (HSR : Hid (∀ w, Calls Try.prog 47 #[.agg #[.int .u64 (dgl (a) 0 : Nat), .int .u64 (dgl (a) 1 : Nat), .int .u64 (dgl (a) 2 : Nat), .int .u64 (dgl (a) 3 : Nat), .int .u64 (dgl (a) 4 : Nat), .int .u64 (dgl (a) 5 : Nat), .int .u64 (dgl (a) 6 : Nat), .int .u64 (dgl (a) 7 : Nat)], .int .i64 2] w fun e w' => e = .returned (.tuple #[.agg #[.int .u64 (dgl (q) 0 : Nat), .int .u64 (dgl (q) 1 : Nat), .int .u64 (dgl (q) 2 : Nat), .int .u64 (dgl (q) 3 : Nat), .int .u64 (dgl (q) 4 : Nat), .int .u64 (dgl (q) 5 : Nat), .int .u64 (dgl (q) 6 : Nat), .int .u64 (dgl (q) 7 : Nat)], .bool ov]) ∧ Below w.heap.size w w'))
    (HAD : Hid (∀ w, Calls Try.prog 44 #[.agg #[.int .u64 (dgl (q) 0 : Nat), .int .u64 (dgl (q) 1 : Nat), .int .u64 (dgl (q) 2 : Nat), .int .u64 (dgl (q) 3 : Nat), .int .u64 (dgl (q) 4 : Nat), .int .u64 (dgl (q) 5 : Nat), .int .u64 (dgl (q) 6 : Nat), .int .u64 (dgl (q) 7 : Nat)], .agg #[.int .u64 (dgl (1) 0 : Nat), .int .u64 (dgl (1) 1 : Nat), .int .u64 (dgl (1) 2 : Nat), .int .u64 (dgl (1) 3 : Nat), .int .u64 (dgl (1) 4 : Nat), .int .u64 (dgl (1) 5 : Nat), .int .u64 (dgl (1) 6 : Nat), .int .u64 (dgl (1) 7 : Nat)]] w fun e w' => e = .returned (.tuple #[.agg #[.int .u64 (dgl (q + 1) 0 : Nat), .int .u64 (dgl (q + 1) 1 : Nat), .int .u64 (dgl (q + 1) 2 : Nat), .int .u64 (dgl (q + 1) 3 : Nat), .int .u64 (dgl (q + 1) 4 : Nat), .int .u64 (dgl (q + 1) 5 : Nat), .int .u64 (dgl (q + 1) 6 : Nat), .int .u64 (dgl (q + 1) 7 : Nat)], .bool ov2]) ∧ Below w.heap.size w w')) (w : World) :
    Calls Try.prog 36 #[.agg #[.int .u64 (dgl (a) 0 : Nat), .int .u64 (dgl (a) 1 : Nat), .int .u64 (dgl (a) 2 : Nat), .int .u64 (dgl (a) 3 : Nat), .int .u64 (dgl (a) 4 : Nat), .int .u64 (dgl (a) 5 : Nat), .int .u64 (dgl (a) 6 : Nat), .int .u64 (dgl (a) 7 : Nat)]] w fun e w' => e = .returned (.tuple #[.int .i64 (-1), .agg #[.int .u64 (dgl (q + 1) 0 : Nat), .int .u64 (dgl (q + 1) 1 : Nat), .int .u64 (dgl (q + 1) 2 : Nat), .int .u64 (dgl (q + 1) 3 : Nat), .int .u64 (dgl (q + 1) 4 : Nat), .int .u64 (dgl (q + 1) 5 : Nat), .int .u64 (dgl (q + 1) 6 : Nat), .int .u64 (dgl (q + 1) 7 : Nat)]]) ∧ Below w.heap.size w w' := by
  have HS := hide (spSt_start a w 26 26)
  have hd4 : ((dgl a 0 : Nat) : Int) % 4 = 3 := by rw [dgl_mod4]; omega
  clear hd
  go_enter Try.func36, Try.ntmps36
  have hla := HS.out.la.1
  go_wp2_with fail
  refine (HLO.out _).mono ?_
  rintro e w1 ⟨rfl, hb1⟩
  replace HS := hide (HS.out.below hb1)
  clear hb1 hla
  have hla := HS.out.la.1
  have hfd := fun w => fld_lo (.int .u64 (dgl a 1 : Nat)) (.int .u64 (dgl a 0 : Nat)) w
  go_wp2_with fail
  refine (HSR.out _).mono ?_
  rintro e w2 ⟨rfl, hb2⟩
  replace HS := hide (HS.out.below hb2)
  clear hb2 hla hfd
  have HO1 : Hid (∀ i, i < 8 → dg [1] i = dgl 1 i) := fun i hi => (dig_one (β := 18446744073709551616) (by decide)).2 i
  go_upto_region 5 with fail
  refine wp_gen (fun W => SpSt a 0 w W ∧ LiesF W w2.heap.size (dgl q) ∧ ∀ i, W.frozen? ⟨w2.heap.size, i, none⟩ = false) ⟨HS.out.below (below_allocs _ _), liesF_new w2 (dgl q) _, fun i => by simp [go_sem]⟩ ?_
  have HNE := hide (show w.heap.size + 1 < w2.heap.size from HS.out.lr.2)
  clear HS
  generalize w2.heap.size = p5 at *
  rintro W5 h5
  have HC := hide h5
  clear h5
  refine wp_region_storeK 8 [7] [20, 21, 22, 23, 19, 24, 25] (fun bs => [(20, .val (.agg #[.int .u64 (dgl (q) 0 : Nat), .int .u64 (dgl (q) 1 : Nat), .int .u64 (dgl (q) 2 : Nat), .int .u64 (dgl (q) 3 : Nat), .int .u64 (dgl (q) 4 : Nat), .int .u64 (dgl (q) 5 : Nat), .int .u64 (dgl (q) 6 : Nat), .int .u64 (dgl (q) 7 : Nat)])), (21, bif bs.headD false then SlotIs.any  else SlotIs.rd [1]), (22, .val (.agg #[.int .u64 (dgl (1) 0 : Nat), .int .u64 (dgl (1) 1 : Nat), .int .u64 (dgl (1) 2 : Nat), .int .u64 (dgl (1) 3 : Nat), .int .u64 (dgl (1) 4 : Nat), .int .u64 (dgl (1) 5 : Nat), .int .u64 (dgl (1) 6 : Nat), .int .u64 (dgl (1) 7 : Nat)])), (23, .val (.tuple #[.agg #[.int .u64 (dgl (q + 1) 0 : Nat), .int .u64 (dgl (q + 1) 1 : Nat), .int .u64 (dgl (q + 1) 2 : Nat), .int .u64 (dgl (q + 1) 3 : Nat), .int .u64 (dgl (q + 1) 4 : Nat), .int .u64 (dgl (q + 1) 5 : Nat), .int .u64 (dgl (q + 1) 6 : Nat), .int .u64 (dgl (q + 1) 7 : Nat)], .bool ov2])), (19, .val (.tuple #[.agg #[.int .u64 (dgl (q + 1) 0 : Nat), .int .u64 (dgl (q + 1) 1 : Nat), .int .u64 (dgl (q + 1) 2 : Nat), .int .u64 (dgl (q + 1) 3 : Nat), .int .u64 (dgl (q + 1) 4 : Nat), .int .u64 (dgl (q + 1) 5 : Nat), .int .u64 (dgl (q + 1) 6 : Nat), .int .u64 (dgl (q + 1) 7 : Nat)], .bool ov2])), (24, .val (.agg #[.int .u64 (dgl (q + 1) 0 : Nat), .int .u64 (dgl (q + 1) 1 : Nat), .int .u64 (dgl (q + 1) 2 : Nat), .int .u64 (dgl (q + 1) 3 : Nat), .int .u64 (dgl (q + 1) 4 : Nat), .int .u64 (dgl (q + 1) 5 : Nat), .int .u64 (dgl (q + 1) 6 : Nat), .int .u64 (dgl (q + 1) 7 : Nat)])), (25, .val (.bool ov2))])
    (fun bs W => SpSt a 0 w W ∧ ∀ c, bs.headD false = c → LiesF W p5 (dgl (bif c then q + 1 else q)) ∧ ∀ i, W.frozen? ⟨p5, i, none⟩ = false) (fun bs => rfl) mixedOk (by kernel_rfl) (by kernel_rfl) (by kernel_rfl) (⟨HC.out.1.below (Below.refl _ _).drew, fun c hc => by subst hc; exact ⟨HC.out.2.1.below (Below.refl _ _).drew, fun i => HC.out.2.2 i⟩⟩) (fun bs W W' h hb => ⟨h.1.below hb, fun c hc => ⟨(h.2 c hc).1.below hb, fun i => (hb.frozen (p := ⟨p5, i, none⟩) (h.2 c hc).1.2).trans ((h.2 c hc).2 i)⟩⟩) ?_ ?_
  · refine kSt rfl (fun φ hφ => gStep_run rfl ?_) ?_
    · intro ρ W hC hc hf hL
      have e5 : ρ (.tmp 5) = .pointer (some ⟨p5, 0, none⟩) := hL 5 (by decide +kernel)
      have hφw : φ 7 = false := hφ 7 (by simp) (by kernel_rfl)
      have hl := (hC.2 false (by simp [hφw])).1.1
      simp [go_sem, hc, hf, e5, hl]
      exact ⟨Below.refl _ _, rfl⟩
    refine kSt rfl (fun φ hφ => gStep_run rfl ?_) ?_
    · intro ρ W hC hc hf hL
      have hφ0 : φ 7 = false := hφ 7 (by simp) (by kernel_rfl)
      simp [go_sem, hc, hf]
      refine ⟨below_allocs _ _, ?_⟩
      show (bif φ 7 then SlotIs.any else SlotIs.rd [1]).R _ _
      rw [hφ0]
      exact Rd.lit (mk := mk64) W 24 [.int .u64 1] [1] rfl 1 (Nat.le_refl 1) (by decide)
    refine kSt rfl (fun φ hφ => gStep_run rfl ?_) ?_
    · intro ρ W hC hc hf hL
      have hφ0 : φ 7 = false := hφ 7 (by simp) (by kernel_rfl)
      have b21 : (bif φ 7 then SlotIs.any  else SlotIs.rd [1]).R (ρ (.tmp 21)) W := hL 21 (by decide +kernel)
      rw [hφ0] at b21
      simp [go_sem, hc, hf]
      refine (wideOf_any [1] 1 _ _ b21 HO1.out).mono ?_
      rintro e w' ⟨rfl, hb⟩
      exact ⟨_, rfl, by first | exact hb | (subst hb; exact Below.refl _ _), rfl⟩
    refine kSt rfl (fun φ hφ => gStep_run rfl ?_) ?_
    · intro ρ W hC hc hf hL
      have e20 : ρ (.tmp 20) = .agg #[.int .u64 (dgl (q) 0 : Nat), .int .u64 (dgl (q) 1 : Nat), .int .u64 (dgl (q) 2 : Nat), .int .u64 (dgl (q) 3 : Nat), .int .u64 (dgl (q) 4 : Nat), .int .u64 (dgl (q) 5 : Nat), .int .u64 (dgl (q) 6 : Nat), .int .u64 (dgl (q) 7 : Nat)] := hL 20 (by decide +kernel)
      have e22 : ρ (.tmp 22) = .agg #[.int .u64 (dgl (1) 0 : Nat), .int .u64 (dgl (1) 1 : Nat), .int .u64 (dgl (1) 2 : Nat), .int .u64 (dgl (1) 3 : Nat), .int .u64 (dgl (1) 4 : Nat), .int .u64 (dgl (1) 5 : Nat), .int .u64 (dgl (1) 6 : Nat), .int .u64 (dgl (1) 7 : Nat)] := hL 22 (by decide +kernel)
      simp [go_sem, hc, hf, e20, e22]
      refine (HAD.out W).mono ?_
      rintro e w' ⟨rfl, hb⟩
      exact ⟨_, rfl, by first | exact hb | (subst hb; exact Below.refl _ _), rfl⟩
    refine kSt rfl (fun φ hφ => gStep_run rfl (gRun_move 23 19 (.inl rfl) rfl (by decide +kernel) (fun v w h => h))) ?_
    refine kSt rfl (fun φ hφ => gStep_run rfl ?_) ?_
    · intro ρ W hC hc hf hL
      have e19 : ρ (.tmp 19) = .tuple #[.agg #[.int .u64 (dgl (q + 1) 0 : Nat), .int .u64 (dgl (q + 1) 1 : Nat), .int .u64 (dgl (q + 1) 2 : Nat), .int .u64 (dgl (q + 1) 3 : Nat), .int .u64 (dgl (q + 1) 4 : Nat), .int .u64 (dgl (q + 1) 5 : Nat), .int .u64 (dgl (q + 1) 6 : Nat), .int .u64 (dgl (q + 1) 7 : Nat)], .bool ov2] := hL 19 (by decide +kernel)
      simp [go_sem, hc, hf, e19]
      exact ⟨Below.refl _ _, rfl⟩
    refine kSt rfl (fun φ hφ => gStep_run rfl ?_) ?_
    · intro ρ W hC hc hf hL
      have e19 : ρ (.tmp 19) = .tuple #[.agg #[.int .u64 (dgl (q + 1) 0 : Nat), .int .u64 (dgl (q + 1) 1 : Nat), .int .u64 (dgl (q + 1) 2 : Nat), .int .u64 (dgl (q + 1) 3 : Nat), .int .u64 (dgl (q + 1) 4 : Nat), .int .u64 (dgl (q + 1) 5 : Nat), .int .u64 (dgl (q + 1) 6 : Nat), .int .u64 (dgl (q + 1) 7 : Nat)], .bool ov2] := hL 19 (by decide +kernel)
      simp [go_sem, hc, hf, e19]
      exact ⟨Below.refl _ _, rfl⟩
    refine kStS rfl ⟨rfl, rfl, ?_⟩ ?_
    · intro φ ρ W hφ hC hc hL
      have e5 : ρ (.tmp 5) = .pointer (some ⟨p5, 0, none⟩) := hL 5 (by decide +kernel)
      have e24 : ρ (.tmp 24) = .agg #[.int .u64 (dgl (q + 1) 0 : Nat), .int .u64 (dgl (q + 1) 1 : Nat), .int .u64 (dgl (q + 1) 2 : Nat), .int .u64 (dgl (q + 1) 3 : Nat), .int .u64 (dgl (q + 1) 4 : Nat), .int .u64 (dgl (q + 1) 5 : Nat), .int .u64 (dgl (q + 1) 6 : Nat), .int .u64 (dgl (q + 1) 7 : Nat)] := hL 24 (by decide +kernel)
      have g : LiesF W p5 (dgl q) ∧ (∀ i, W.frozen? ⟨p5, i, none⟩ = false) := hC.2 false (by simp [hφ])
      have hz := g.1.1
      have hzl := g.1.2
      have hzf := g.2
      refine gUpon_of ((((((((W.setCell ⟨p5, 0, none⟩ (.int .u64 (dgl (q + 1) 0 : Nat))).setCell ⟨p5, 1, none⟩ (.int .u64 (dgl (q + 1) 1 : Nat))).setCell ⟨p5, 2, none⟩ (.int .u64 (dgl (q + 1) 2 : Nat))).setCell ⟨p5, 3, none⟩ (.int .u64 (dgl (q + 1) 3 : Nat))).setCell ⟨p5, 4, none⟩ (.int .u64 (dgl (q + 1) 4 : Nat))).setCell ⟨p5, 5, none⟩ (.int .u64 (dgl (q + 1) 5 : Nat))).setCell ⟨p5, 6, none⟩ (.int .u64 (dgl (q + 1) 6 : Nat))).setCell ⟨p5, 7, none⟩ (.int .u64 (dgl (q + 1) 7 : Nat))) ?_ (fun _ => ?_)
      · simp [go_sem, hc, e5, e24, hz, hzl, hzf, gUpon]
      have hs8 := below_set8 (Below.refl p5 W) p5 (Nat.le_refl _) (.int .u64 (dgl (q + 1) 0 : Nat)) (.int .u64 (dgl (q + 1) 1 : Nat)) (.int .u64 (dgl (q + 1) 2 : Nat)) (.int .u64 (dgl (q + 1) 3 : Nat)) (.int .u64 (dgl (q + 1) 4 : Nat)) (.int .u64 (dgl (q + 1) 5 : Nat)) (.int .u64 (dgl (q + 1) 6 : Nat)) (.int .u64 (dgl (q + 1) 7 : Nat))
      refine ⟨⟨hC.1.under hs8 HNE.out, fun c hc => ?_⟩, fun t => ?_⟩
      · have hc1 : c = true := by rw [← hc]; simp
        subst hc1
        exact ⟨set8_same W p5 (dgl (q + 1)) (dgl q) g.1, fun i => by simpa [go_sem] using g.2 i⟩
      refine (tbl_imp rfl (fun _ => val_imp) (tbl_imp rfl (fun _ _ => ?_) (tbl_imp rfl (fun _ => val_imp) (tbl_imp rfl (fun _ => val_imp) (tbl_imp rfl (fun _ => val_imp) (tbl_imp rfl (fun _ => val_imp) (tbl_imp rfl (fun _ => val_imp) tbl_nil_imp)))))))
      show (bif (φ 7 || true) then SlotIs.any else SlotIs.rd [1]).R _ _
      rw [Bool.or_true]
      trivial
    exact kSt0
  · intro W hC
    refine gFi 20 rfl ?_
    rintro _ rfl
    refine gFi 21 rfl ?_
    rintro u21 b21
    refine gFi 22 rfl ?_
    rintro _ rfl
    refine gFi 23 rfl ?_
    rintro _ rfl
    refine gFi 19 rfl ?_
    rintro _ rfl
    refine gFi 24 rfl ?_
    rintro _ rfl
    refine gFi 25 rfl ?_
    rintro _ rfl
    refine gFiN rfl ?_
    refine gFi0 ?_
    simp only [List.drop_succ_cons, List.drop_zero, Act.put, List.setIfInBounds_toArray, List.set_cons_succ, List.set_cons_zero]
    replace HC := hide (show SpSt a 0 w W ∧ LiesF W p5 (dgl (q + 1)) from ⟨hC.1, (hC.2 true rfl).1⟩)
    clear hC b21
    go_upto_region 6 with fail
    refine wp_region_storeK 4 [3] [26, 27, 2] (fun bs => [(26, .val (.int .i64 (-1))), (27, .val (.agg #[.int .u64 (dgl ((q + 1)) 0 : Nat), .int .u64 (dgl ((q + 1)) 1 : Nat), .int .u64 (dgl ((q + 1)) 2 : Nat), .int .u64 (dgl ((q + 1)) 3 : Nat), .int .u64 (dgl ((q + 1)) 4 : Nat), .int .u64 (dgl ((q + 1)) 5 : Nat), .int .u64 (dgl ((q + 1)) 6 : Nat), .int .u64 (dgl ((q + 1)) 7 : Nat)])), (2, .val (.int .i64 (-1)))])
      (fun bs W => (∀ c, bs.headD false = c → SpSt a (bif c then (q + 1) else 0) w W) ∧ LiesF W p5 (dgl (q + 1))) (fun bs => rfl) mixedOk (by kernel_rfl) (by kernel_rfl) (by kernel_rfl) (⟨fun c hc => by subst hc; exact HC.out.1.below (Below.refl _ _).drew, HC.out.2.below (Below.refl _ _).drew⟩) (fun bs W W' h hb => ⟨fun c hc => (h.1 c hc).below hb, h.2.below hb⟩) ?_ ?_
    · refine kSt rfl (fun φ hφ => gStep_run rfl (gRun_move 4 26 (.inl rfl) rfl (by decide +kernel) (fun v w h => h))) ?_
      refine kSt rfl (fun φ hφ => gStep_run rfl ?_) ?_
      · intro ρ W hC hc hf hL
        have e5 : ρ (.tmp 5) = .pointer (some ⟨p5, 0, none⟩) := hL 5 (by decide +kernel)
        have hl := hC.2.1
        simp [go_sem, hc, hf, e5, hl]
        exact ⟨Below.refl _ _, rfl⟩
      refine kSt rfl (fun φ hφ => gStep_run rfl (gRun_move 26 2 (.inr rfl) rfl (by decide +kernel) (fun v w h => h))) ?_
      refine kStS rfl ⟨rfl, rfl, ?_⟩ ?_
      · intro φ ρ W hφ hC hc hL
        have e3 : ρ (.tmp 3) = .pointer (some ⟨w.heap.size + 1, 0, none⟩) := hL 3 (by decide +kernel)
        have e27 : ρ (.tmp 27) = .agg #[.int .u64 (dgl ((q + 1)) 0 : Nat), .int .u64 (dgl ((q + 1)) 1 : Nat), .int .u64 (dgl ((q + 1)) 2 : Nat), .int .u64 (dgl ((q + 1)) 3 : Nat), .int .u64 (dgl ((q + 1)) 4 : Nat), .int .u64 (dgl ((q + 1)) 5 : Nat), .int .u64 (dgl ((q + 1)) 6 : Nat), .int .u64 (dgl ((q + 1)) 7 : Nat)] := hL 27 (by decide +kernel)
        have g : SpSt a 0 w W := hC.1 false (by simp [hφ])
        have hz := g.lr.1
        have hzl := g.lr.2
        have hzf := g.fr
        have hne := HNE.out
        refine gUpon_of ((((((((W.setCell ⟨w.heap.size + 1, 0, none⟩ (.int .u64 (dgl (q + 1) 0 : Nat))).setCell ⟨w.heap.size + 1, 1, none⟩ (.int .u64 (dgl (q + 1) 1 : Nat))).setCell ⟨w.heap.size + 1, 2, none⟩ (.int .u64 (dgl (q + 1) 2 : Nat))).setCell ⟨w.heap.size + 1, 3, none⟩ (.int .u64 (dgl (q + 1) 3 : Nat))).setCell ⟨w.heap.size + 1, 4, none⟩ (.int .u64 (dgl (q + 1) 4 : Nat))).setCell ⟨w.heap.size + 1, 5, none⟩ (.int .u64 (dgl (q + 1) 5 : Nat))).setCell ⟨w.heap.size + 1, 6, none⟩ (.int .u64 (dgl (q + 1) 6 : Nat))).setCell ⟨w.heap.size + 1, 7, none⟩ (.int .u64 (dgl (q + 1) 7 : Nat))) ?_ (fun _ => ?_)
        · simp [go_sem, hc, e3, e27, hz, hzl, hzf, gUpon]
        refine ⟨⟨fun c hc => ?_, lies_ne hC.2 (by omega)⟩, fun t => ?_⟩
        · have hc1 : c = true := by rw [← hc]; simp
          subst hc1
          exact g.set (q + 1)
        refine (tbl_imp rfl (fun _ => val_imp) (tbl_imp rfl (fun _ => val_imp) (tbl_imp rfl (fun _ => val_imp) tbl_nil_imp)))
      exact kSt0
    · intro W hC
      refine gFi 26 rfl ?_
      rintro _ rfl
      refine gFi 27 rfl ?_
      rintro _ rfl
      refine gFi 2 rfl ?_
      rintro _ rfl
      refine gFiN rfl ?_
      refine gFi0 ?_
      simp only [List.drop_succ_cons, List.drop_zero, Act.put, List.setIfInBounds_toArray, List.set_cons_succ, List.set_cons_zero]
      have g := hC.1 true rfl
      have hr1 := g.lr.1
      have hrl1 := g.lr.2
      have HBE := hide g.bel
      clear hC g
      go_wp2
      exact bodyPost_ret (v := .tuple #[.int .i64 (-1), .agg #[.int .u64 (dgl ((q + 1)) 0 : Nat), .int .u64 (dgl ((q + 1)) 1 : Nat), .int .u64 (dgl ((q + 1)) 2 : Nat), .int .u64 (dgl ((q + 1)) 3 : Nat), .int .u64 (dgl ((q + 1)) 4 : Nat), .int .u64 (dgl ((q + 1)) 5 : Nat), .int .u64 (dgl ((q + 1)) 6 : Nat), .int .u64 (dgl ((q + 1)) 7 : Nat)]]) (by simp [results, Try.results36, go_sem, hr1, hrl1]) rfl ⟨rfl, HBE.out⟩
    
  

theorem split_any (a : Nat) (ha : a < QQ) (w : World) :
    Calls Try.prog 36 #[.agg #[.int .u64 (dgl (a) 0 : Nat), .int .u64 (dgl (a) 1 : Nat), .int .u64 (dgl (a) 2 : Nat), .int .u64 (dgl (a) 3 : Nat), .int .u64 (dgl (a) 4 : Nat), .int .u64 (dgl (a) 5 : Nat), .int .u64 (dgl (a) 6 : Nat), .int .u64 (dgl (a) 7 : Nat)]] w fun e w' => e = .returned (.tuple #[.int .i64 (spD a), .agg #[.int .u64 (dgl (spQ a) 0 : Nat), .int .u64 (dgl (spQ a) 1 : Nat), .int .u64 (dgl (spQ a) 2 : Nat), .int .u64 (dgl (spQ a) 3 : Nat), .int .u64 (dgl (spQ a) 4 : Nat), .int .u64 (dgl (spQ a) 5 : Nat), .int .u64 (dgl (spQ a) 6 : Nat), .int .u64 (dgl (spQ a) 7 : Nat)]]) ∧ Below w.heap.size w w' := by
  have hsr := fun w => wideShr_any a 2 2 (by decide) ha w
  rw [show (2 : Nat) ^ 2 = 4 from rfl] at hsr
  by_cases h : a % 4 = 3
  · have e1 : spD a = -1 := by unfold spD; rw [if_pos h]
    have e2 : spQ a = a / 4 + 1 := by unfold spQ; rw [if_pos h]
    have hq := qq_big
    rw [e1, e2]
    exact split_T a (a / 4) _ _ h (fun w => wideLow_any (dgl a) w) hsr (fun w => wideAdd_any (a / 4) 1 (by omega) (by omega) w) w
  · have e1 : spD a = ((a % 4 : Nat) : Int) := by unfold spD; rw [if_neg h]
    have e2 : spQ a = a / 4 := by unfold spQ; rw [if_neg h]
    rw [e1, e2]
    exact split_N a (a / 4) (a % 4) _ ⟨rfl, by omega⟩ (fun w => wideLow_any (dgl a) w) hsr w
end Go.Proofs.Ytgnaomgcfliamaa

/- Contracts: fly.Recode. -/
set_option linter.unusedVariables false
set_option linter.unusedSimpArgs false
set_option maxRecDepth 8000
namespace Go.Proofs.Ytgnaomgcfliamaa
open Go.RowKit Plain

/-- What is left of a number behind k digits. -/
def rQ (a : Nat) : Nat → Nat
  | 0 => a
  | k + 1 => spQ (rQ a k)
theorem rQ_lt {a : Nat} (h : a < QQ) : ∀ k, rQ a k < QQ
  | 0 => h
  | k + 1 => spQ_lt (rQ_lt h k)
theorem nof_spD (a : Nat) : mkZ (nof (spD a)) = .int .i64 (spD a) := mkZ_nof (by have := spD_bd a; omega)
theorem lies_set1 {W : World} {b c i : Nat} {f : Nat → Nat} {u : Value} (h : LiesF W b f) (hne : b ≠ c) : LiesF (W.setCell ⟨c, i, none⟩ u) b f :=
  ⟨fun j hj => by have := h.1 j hj; simpa [go_sem, hne] using this, by simpa [go_sem] using h.2⟩

/-- What Recode goes by: a row, and what is left. -/
structure RcSt (n g p x : Nat) (o : List Nat) (w W : World) : Prop where
  l7 : LiesF W p (dgl x)
  f7 : ∀ i, W.frozen? ⟨p, i, none⟩ = false
  own : W.ownsRow g 3 1 (.slice (some ⟨g, 0, none⟩) n n) n (o.map mkZ)
  bel : Below w.heap.size w W
  og : w.heap.size ≤ g
  op : g < p
theorem RcSt.below {n g p x : Nat} {o : List Nat} {w W W' : World} (h : RcSt n g p x o w W) (hb : Below W.heap.size W W') : RcSt n g p x o w W' :=
  ⟨h.l7.below hb, fun i => (hb.frozen (p := ⟨p, i, none⟩) h.l7.2).trans (h.f7 i), ownsZ_below h.own hb, below_trans h.bel hb, h.og, h.op⟩
theorem RcSt.step {n g p x : Nat} {o : List Nat} {w W : World} (h : RcSt n g p x o w W) (j d y : Nat) : RcSt n g p y (o.set j d) w (((((((((W.setCell ⟨g, j, none⟩ (mkZ d)).setCell ⟨p, 0, none⟩ (.int .u64 (dgl y 0 : Nat))).setCell ⟨p, 1, none⟩ (.int .u64 (dgl y 1 : Nat))).setCell ⟨p, 2, none⟩ (.int .u64 (dgl y 2 : Nat))).setCell ⟨p, 3, none⟩ (.int .u64 (dgl y 3 : Nat))).setCell ⟨p, 4, none⟩ (.int .u64 (dgl y 4 : Nat))).setCell ⟨p, 5, none⟩ (.int .u64 (dgl y 5 : Nat))).setCell ⟨p, 6, none⟩ (.int .u64 (dgl y 6 : Nat))).setCell ⟨p, 7, none⟩ (.int .u64 (dgl y 7 : Nat))) := by
  have hg := h.og
  have hp := h.op
  obtain ⟨h1, h3⟩ := owns_store (mk := mkZ) h.own j d (Below.refl g W) (Nat.le_refl _)
  have hl := lies_set1 (i := j) (u := mkZ d) h.l7 (show p ≠ g by omega)
  have hs := below_set8 (Below.refl p (W.setCell ⟨g, j, none⟩ (mkZ d))) p (Nat.le_refl _) (.int .u64 (dgl y 0 : Nat)) (.int .u64 (dgl y 1 : Nat)) (.int .u64 (dgl y 2 : Nat)) (.int .u64 (dgl y 3 : Nat)) (.int .u64 (dgl y 4 : Nat)) (.int .u64 (dgl y 5 : Nat)) (.int .u64 (dgl y 6 : Nat)) (.int .u64 (dgl y 7 : Nat))
  refine ⟨set8_same _ p (dgl y) (dgl x) hl, fun i => by simpa [go_sem] using h.f7 i, ownsZ_of_block h1 fun k hk => hs.block k ?_, below_set8 (h.bel.setCell (p := ⟨g, j, none⟩) h.og _) p (by omega) _ _ _ _ _ _ _ _, h.og, h.op⟩
  simp [Value.ownBlock] at hk
  omega

theorem recode_no (a : Nat) (n : Int) (hn : n < 0 ∨ 300 < n) (w : World) :
    Calls Try.prog 18 #[.agg #[.int .u64 (dgl (a) 0 : Nat), .int .u64 (dgl (a) 1 : Nat), .int .u64 (dgl (a) 2 : Nat), .int .u64 (dgl (a) 3 : Nat), .int .u64 (dgl (a) 4 : Nat), .int .u64 (dgl (a) 5 : Nat), .int .u64 (dgl (a) 6 : Nat), .int .u64 (dgl (a) 7 : Nat)], .int .i64 n] w fun e w' => e = .returned (.tuple #[.slice none 0 0, .bool false]) ∧ Below w.heap.size w w' := by
  have HB := hide (below_allocs w (.cells #[.int .u64 (dgl (a) 0 : Nat), .int .u64 (dgl (a) 1 : Nat), .int .u64 (dgl (a) 2 : Nat), .int .u64 (dgl (a) 3 : Nat), .int .u64 (dgl (a) 4 : Nat), .int .u64 (dgl (a) 5 : Nat), .int .u64 (dgl (a) 6 : Nat), .int .u64 (dgl (a) 7 : Nat)] 26))
  go_enter Try.func18, Try.ntmps18
  rcases hn with h | h
  · go_wp2
    exact bodyPost_ret (v := .tuple #[.slice none 0 0, .bool false]) (by simp [results, Try.results18, go_sem]) rfl ⟨rfl, HB.out⟩
  · have h0 : ¬ n < 0 := by omega
    go_wp2
    exact bodyPost_ret (v := .tuple #[.slice none 0 0, .bool false]) (by simp [results, Try.results18, go_sem]) rfl ⟨rfl, HB.out⟩

set_option maxHeartbeats 4000000 in
theorem recode_any (a n : Nat) (ha : a < QQ) (hn : n ≤ 300) (w : World) :
    Calls Try.prog 18 #[.agg #[.int .u64 (dgl (a) 0 : Nat), .int .u64 (dgl (a) 1 : Nat), .int .u64 (dgl (a) 2 : Nat), .int .u64 (dgl (a) 3 : Nat), .int .u64 (dgl (a) 4 : Nat), .int .u64 (dgl (a) 5 : Nat), .int .u64 (dgl (a) 6 : Nat), .int .u64 (dgl (a) 7 : Nat)], .int .i64 (n : Nat)] w fun e w' => Below w.heap.size w w' ∧
      ((rQ a n = 0 ∧ ∃ v L, e = .returned (.tuple #[v, .bool true]) ∧ Rd mkZ w' v L ∧ L.length = n ∧ ∀ k, k < n → dg L k = nof (spD (rQ a (n - 1 - k)))) ∨ (rQ a n ≠ 0 ∧ e = .returned (.tuple #[.slice none 0 0, .bool false]))) := by
  obtain ⟨i0, hi, hz0, hz1, hz2⟩ := info_parts int_infoZ
  have HS : Hid (LiesF (w.alloc (.cells #[.int .u64 (dgl (a) 0 : Nat), .int .u64 (dgl (a) 1 : Nat), .int .u64 (dgl (a) 2 : Nat), .int .u64 (dgl (a) 3 : Nat), .int .u64 (dgl (a) 4 : Nat), .int .u64 (dgl (a) 5 : Nat), .int .u64 (dgl (a) 6 : Nat), .int .u64 (dgl (a) 7 : Nat)] 26)) w.heap.size (dgl a) ∧ Below w.heap.size w (w.alloc (.cells #[.int .u64 (dgl (a) 0 : Nat), .int .u64 (dgl (a) 1 : Nat), .int .u64 (dgl (a) 2 : Nat), .int .u64 (dgl (a) 3 : Nat), .int .u64 (dgl (a) 4 : Nat), .int .u64 (dgl (a) 5 : Nat), .int .u64 (dgl (a) 6 : Nat), .int .u64 (dgl (a) 7 : Nat)] 26))) := ⟨liesF_new w (dgl a) _, below_allocs w _⟩
  have HA := hide ha
  have hn0 : ¬ (n : Int) < 0 := by omega
  have hn3 : ¬ 300 < (n : Int) := by omega
  have hw0 : IntKind.i64.wrap ((n : Int) - 1) = (n : Int) - 1 := by rw [IntKind.wrap_i64]; omega
  clear ha
  go_enter Try.func18, Try.ntmps18
  go_upto_region 3 with fail
  refine wp_gen (fun W => LiesF W w.heap.size (dgl a) ∧ Below w.heap.size w W) HS.out ?_
  clear HS
  rintro W3 h3
  have HS := hide h3
  clear h3
  go_wp2_with (at_make; refine wpList_mkC W3 rfl _ _ 22 rfl 3 i0 (.int .i64 0) 8 Try.underlying22 hi hz0 hz1 hz2 mkZ zzN mkZ_zero rfl .i64 .i64 _ _ n (by rfl) (by rfl) (by omega) (by omega) (by omega) (by omega) ?_; intro w0 hown0 hbel0; go_must (have hla := (HS.out.1.below hbel0).1))
  have HG0 := hide (show w.heap.size ≤ W3.heap.size from HS.out.2.size)
  have HL0 := hide (show W3.heap.size < w0.heap.size from (hown0.lt _ rfl).2)
  have HD0 : Hid (RcSt n W3.heap.size w0.heap.size a (List.replicate n zzN) w (w0.alloc (.cells #[.int .u64 (dgl (a) 0 : Nat), .int .u64 (dgl (a) 1 : Nat), .int .u64 (dgl (a) 2 : Nat), .int .u64 (dgl (a) 3 : Nat), .int .u64 (dgl (a) 4 : Nat), .int .u64 (dgl (a) 5 : Nat), .int .u64 (dgl (a) 6 : Nat), .int .u64 (dgl (a) 7 : Nat)] 26))) := ⟨liesF_new w0 (dgl a) _, fun i => by simp [go_sem], hown0.alloc _, below_trans (below_trans HS.out.2 hbel0) (below_allocs _ _), HG0.out, HL0.out⟩
  clear hown0 hbel0 HS HL0
  generalize W3.heap.size = g at *
  clear hla
  generalize w0.heap.size = p at *
  go_loopw [8] (fun i wr => ∃ (j : Nat) (zi : Int) (x : Nat) (o : List Nat), j ≤ n ∧ Hid (zi = (j : Int) - 1) ∧ i = .int .i64 zi ∧ Hid (x = rQ a (n - j)) ∧ Hid (o.length = n ∧ ∀ k, j ≤ k → k < n → dg o k = nof (spD (rQ a (n - 1 - k)))) ∧ Hid (RcSt n g p x o w wr))
    (fun i _ => (intOf i + 1).toNat)
  case atStart => exact ⟨n, (n : Int) - 1, a, List.replicate n zzN, by omega, hide rfl, rfl, by apply hide; rw [Nat.sub_self]; rfl, ⟨by simp, fun k h1 h2 => absurd h1 (by omega)⟩, HD0⟩
  case round =>
    clear HD0
    obtain ⟨j, zi, x, o, hj, hzi, rfl, HX, HO, hst⟩ := hrel
    by_cases hz0 : 0 ≤ zi
    · obtain ⟨q, rfl⟩ : ∃ q : Nat, zi = (q : Int) := ⟨zi.toNat, by omega⟩
      obtain rfl : j = q + 1 := by have := hzi.out; omega
      have hqn : q < n := hj
      clear hzi hj
      have hq1 : (q : Int) < (n : Int) := by omega
      have hw1 : IntKind.i64.wrap ((q : Int) - 1) = (q : Int) - 1 := by rw [IntKind.wrap_i64]; omega
      have HQ := hide (hqn)
      have HSP := hide (fun w => split_any x (by rw [HX.out]; exact rQ_lt HA.out _) w)
      have HX2 : Hid (spQ x = rQ a (n - q)) := by
        apply hide
        rw [HX.out, show n - q = (n - (q + 1)) + 1 by omega]
        rfl
      have HN : Hid ((o.set q (nof (spD x))).length = n ∧ ∀ k, q ≤ k → k < n → dg (o.set q (nof (spD x))) k = nof (spD (rQ a (n - 1 - k)))) := by
        refine ⟨by rw [List.length_set]; exact HO.out.1, fun k h1 h2 => ?_⟩
        rw [dg_set _ _ _ _ (by rw [HO.out.1]; exact hqn)]
        split
        · rename_i h
          rw [h, HX.out, show n - 1 - q = n - (q + 1) by omega]
        · exact HO.out.2 k (by omega) h2
      have hl7 := hst.out.l7.1
      go_wp2_with fail
      refine (HSP.out _).mono ?_
      rintro e w8 ⟨rfl, hb8⟩
      replace hst := hide (hst.out.below hb8)
      clear hb8 hl7 HSP
      have hco : w8.cell? ⟨g, q, none⟩ = some (mkZ (dg o q)) := owns_cell hst.out.own HO.out.1 q hqn
      have hfo : w8.frozen? ⟨g, q, none⟩ = false := hst.out.own.frozenAt _
      have hst2 := hide (hst.out.step q (nof (spD x)) (spQ x))
      rw [nof_spD] at hst2
      have hl7 := hst.out.l7.1
      have hl7l := hst.out.l7.2
      have hf7 := hst.out.f7
      have hne : p ≠ g := by have := hst.out.op; omega
      clear HO hst
      have HP := hide hne
      generalize nof (spD x) = d at *
      generalize spD x = z at *
      generalize spQ x = y at *
      go_wp2
      go_roundw
      case rel => exact ⟨q, _, y, _, by omega, hide rfl, rfl, HX2, HN, hst2⟩
      case measure => simp [intOf]
    · obtain rfl : j = 0 := by have := hzi.out; omega
      have HR : Hid (x = rQ a n ∧ Rd mkZ wr (.slice (some ⟨g, 0, none⟩) n n) o ∧ o.length = n ∧ (∀ k, k < n → dg o k = nof (spD (rQ a (n - 1 - k)))) ∧ Below w.heap.size w wr) := by
        have h := infoZ_rd HO.out.1 hst.out.own
        exact ⟨HX.out, h, HO.out.1, fun k hk => HO.out.2 k (Nat.zero_le _) hk, hst.out.bel⟩
      have hl7 := hst.out.l7.1
      have hzz := fun w => wide_eqz (show x < QQ by rw [HX.out]; exact rQ_lt HA.out _) w
      clear HO hst HX
      by_cases hx0 : x = 0
      · have hd0 : decide (x = 0) = true := decide_eq_true hx0
        rw [hd0] at hzz
        have HX0 := hide hx0
        clear hx0 hd0
        go_wp2
        exact bodyPost_ret (v := .tuple #[.slice (some ⟨g, 0, none⟩) n n, .bool true]) (by simp [results, Try.results18, go_sem]) rfl ⟨HR.out.2.2.2.2, .inl ⟨HR.out.1 ▸ HX0.out, _, rfl, o, HR.out.2.1, HR.out.2.2.1, HR.out.2.2.2.1⟩⟩
      · have hd0 : decide (x = 0) = false := decide_eq_false hx0
        rw [hd0] at hzz
        have HX0 := hide hx0
        clear hx0 hd0
        go_wp2
        exact bodyPost_ret (v := .tuple #[.slice none 0 0, .bool false]) (by simp [results, Try.results18, go_sem]) rfl ⟨HR.out.2.2.2.2, .inr ⟨HR.out.1 ▸ HX0.out, rfl⟩⟩
end Go.Proofs.Ytgnaomgcfliamaa

/- Contracts: radicandref13.Recode. -/
set_option linter.unusedVariables false
set_option linter.unusedSimpArgs false
set_option maxRecDepth 8000
namespace Go.Proofs.Ytgnaomgcfliamaa
open Go.RowKit Plain

theorem spQ_three {X : Nat} (h : X % 4 = 3) : (X + 1) / 2 ^ 2 = spQ X := by
  unfold spQ; rw [if_pos h]
  rw [show (2 : Nat) ^ 2 = 4 from rfl]; omega
theorem spQ_less {X : Nat} (h : ¬ X % 4 = 3) : (X - X % 4) / 2 ^ 2 = spQ X := by
  unfold spQ; rw [if_neg h]
  rw [show (2 : Nat) ^ 2 = 4 from rfl]; omega
theorem bigz_slice {W : World} {v : Value} {s K : Nat} (h : BigV W v s K) : ∃ ao l ca, v = .slice ao l ca := by
  obtain ⟨l, ⟨ao, ca, rfl, -⟩, -⟩ := h
  exact ⟨_, _, _, rfl⟩
theorem rdz_slice {mk : Nat → Value} {W : World} {v : Value} {l : List Nat} (h : Rd mk W v l) : ∃ ao n ca, v = .slice ao n ca := by
  obtain ⟨ao, ca, rfl, -⟩ := h
  exact ⟨_, _, _, rfl⟩
theorem blen0 (d : Nat) : Go.bitLen d = 0 ↔ d = 0 := by
  unfold Go.bitLen
  split <;> omega
theorem owns_lit1 (W : World) (z : Int) (hz : -9223372036854775808 ≤ z) :
    (W.alloc (.cells #[.int .i64 z] 3)).ownsRow W.heap.size 3 1 (.slice (some ⟨W.heap.size, 0, none⟩) 1 1) 1 ([nof z].map mkZ) := by
  rw [List.map_singleton, mkZ_nof hz]
  exact World.ownsRow_lit W #[.int .i64 z] 1 (Nat.le_refl _) (by unfold maxLen; omega) rfl
/-- The digits found so far, the last one found first. -/
def RL (a k : Nat) (L : List Nat) : Prop := L.length = k ∧ ∀ i, i < k → dg L i = nof (spD (rQ a (k - 1 - i)))
theorem RL.cons {a k : Nat} {L : List Nat} (h : RL a k L) (d : Nat) (hd : d = nof (spD (rQ a k))) : RL a (k + 1) ([d] ++ L) := by
  refine ⟨by simp [h.1], fun i hi => ?_⟩
  match i with
  | 0 => rw [hd]; simp [dg]
  | i + 1 =>
    have := h.2 i (by omega)
    rw [show k + 1 - 1 - (i + 1) = k - 1 - i by omega, ← this]
    simp [dg]

set_option maxHeartbeats 8000000 in
theorem refRecode_any (a n : Nat) (ha : a < QQ) (hn : n ≤ 300) (w : World) :
    Calls Try.prog 19 #[.agg #[.int .u64 (dgl (a) 0 : Nat), .int .u64 (dgl (a) 1 : Nat), .int .u64 (dgl (a) 2 : Nat), .int .u64 (dgl (a) 3 : Nat), .int .u64 (dgl (a) 4 : Nat), .int .u64 (dgl (a) 5 : Nat), .int .u64 (dgl (a) 6 : Nat), .int .u64 (dgl (a) 7 : Nat)], .int .i64 (n : Nat)] w fun e w' => ∃ v L, e = .returned (.tuple #[v, .bool (decide (rQ a n = 0))]) ∧ Rd mkZ w' v L ∧ RL a n L ∧ Below w.heap.size w w' := by
  obtain ⟨i0, hi, hz0, hz1, hz2⟩ := info_parts int_infoZ
  have HS : Hid (LiesF (w.alloc (.cells #[.int .u64 (dgl (a) 0 : Nat), .int .u64 (dgl (a) 1 : Nat), .int .u64 (dgl (a) 2 : Nat), .int .u64 (dgl (a) 3 : Nat), .int .u64 (dgl (a) 4 : Nat), .int .u64 (dgl (a) 5 : Nat), .int .u64 (dgl (a) 6 : Nat), .int .u64 (dgl (a) 7 : Nat)] 26)) w.heap.size (dgl a) ∧ Below w.heap.size w (w.alloc (.cells #[.int .u64 (dgl (a) 0 : Nat), .int .u64 (dgl (a) 1 : Nat), .int .u64 (dgl (a) 2 : Nat), .int .u64 (dgl (a) 3 : Nat), .int .u64 (dgl (a) 4 : Nat), .int .u64 (dgl (a) 5 : Nat), .int .u64 (dgl (a) 6 : Nat), .int .u64 (dgl (a) 7 : Nat)] 26))) := ⟨liesF_new w (dgl a) _, below_allocs w _⟩
  have HBG := hide (fun w => refBig_any a ha w)
  clear ha
  go_enter Try.func19, Try.ntmps19
  have hla := HS.out.1.1
  go_wp2_with fail
  refine (HBG.out _).mono ?_
  rintro e w1 ⟨v1, rfl, hv1, hb1⟩
  have HB1 := hide (below_trans HS.out.2 hb1)
  have HV1 := hide hv1
  clear HS hla hb1 hv1 HBG
  go_wp2
  go_loopw [6, 7, 8] (fun vb vo i wr => ∃ (k X : Nat) (L : List Nat), k ≤ n ∧ i = .int .i64 k ∧ Hid (X = rQ a k) ∧ Hid (BigV wr vb X (40 + k)) ∧ Hid (RL a k L) ∧ Hid (Rd mkZ wr vo L) ∧ Hid (Below w.heap.size w wr))
    (fun _ _ i _ => n - (intOf i).toNat)
  case atStart => exact ⟨0, a, [], by omega, rfl, rfl, HV1, ⟨rfl, fun i hi => absurd hi (by omega)⟩, Rd.nil _ _, HB1⟩
  case round =>
    clear HV1 HB1
    obtain ⟨k, X, L, hk, rfl, HX, HBV, HLL, HR, HB⟩ := hrel
    by_cases hlt : k < n
    · have hi1 : (k : Int) < (n : Int) := by omega
      have HKN := hide (show k ≤ 300 by omega)
      have HXS : Hid (spQ X = rQ a (k + 1)) := by
        apply hide
        rw [HX.out]
        rfl
      have HD0 : Hid (nof (spD X) = nof (spD (rQ a k))) := by apply hide; rw [HX.out]
      clear HX
      obtain ⟨lb, ⟨bo, cb, rfl, hcb, hmb, hcells⟩, hdig, hnorm, hlk⟩ := HBV.out
      unfold maxLen at hmb
      have HCE := hide hcells
      have HLX : Hid (lb.length = 0 → X = 0) := by
        apply hide
        intro h
        have h1 := hdig.1
        rw [h, Nat.pow_zero] at h1
        omega
      have HD : Hid (dg lb 0 = X % BB) := by
        apply hide
        have h1 := hdig.2 0
        rw [Nat.pow_zero, Nat.div_one] at h1
        exact h1
      clear hcells hdig hnorm hlk hcb
      by_cases h3 : X % 4 = 3
      · have hl1 : 0 < lb.length := by
          rcases Nat.eq_zero_or_pos lb.length with h | h
          · have := HLX.out h; omega
          · exact h
        have HX2 : Hid ((X + 1) / 2 ^ 2 = rQ a (k + 1)) := by apply hide; rw [spQ_three h3]; exact HXS.out
        have HSD : Hid (spD X = -1) := by apply hide; unfold spD; rw [if_pos h3]
        have hl0 : (0 : Int) < (lb.length : Int) := by omega
        have HR0 := hide HR.out
        clear HR
        rcases HCE.out with hc0 | ⟨b, off, rfl, hbl, hcell⟩
        · omega
        · have hck : wr.cell? ⟨b, off, none⟩ = some (.int .u32 (dg lb 0 : Nat)) := by have h := hcell 0 (by omega); rw [Nat.add_zero] at h; exact h
          rw [HD.out] at hck
          have hm4 : ((X % BB : Nat) : Int) % 4 = ((X % 4 : Nat) : Int) := by
            have h : X % BB % 4 = X % 4 := by show X % 4294967296 % 4 = X % 4; omega
            rw [← h]; omega
          clear hcell HLX
          rw [h3] at hm4
          generalize X % BB = y at *
          clear h3 HXS
          have HSM := hide (fun w => small_any 1 (by decide) w)
          go_wp2_with fail
          refine (HSM.out _).mono ?_
          rintro e w3 ⟨v3, rfl, hv3, hb3⟩
          replace HBV := hide (HBV.out.below hb3)
          replace HR0 := hide (HR0.out.below hb3)
          replace HB := hide (below_trans HB.out hb3)
          have HV3 := hide hv3
          clear hb3 hv3
          clear HSM
          go_wp2_with fail
          refine (refAdd_any X 1 (40 + k) 2 _ _ _ HBV.out HV3.out (by have := HKN.out; omega) (by omega)).mono ?_
          rintro e w4 ⟨v4, rfl, hv4, hb4⟩
          clear HBV
          clear HV3
          replace HR0 := hide (HR0.out.below hb4)
          replace HB := hide (below_trans HB.out hb4)
          have HV4 := hide hv4
          clear hb4 hv4
          have HV5 := hide (HV4.out.mono (show _ ≤ 40 + (k + 1) by omega))
          clear HV4
          go_wp2_with fail
          refine (refShr_any (X + 1) (40 + (k + 1)) 2 _ _ HV5.out (by have := HKN.out; omega) (by omega)).mono ?_
          rintro e w6 ⟨v6, rfl, hv6, hb6⟩
          clear HV5
          replace HR0 := hide (HR0.out.below hb6)
          replace HB := hide (below_trans HB.out hb6)
          have HV6 := hide hv6
          clear hb6 hv6
          have HOW := hide (owns_lit1 w6 (-1) (by omega))
          have HLN := hide (show L.length = k from HLL.out.1)
          go_wp2_with (at_builtin; (refine wpList_appS w6 (w6.alloc (.cells #[.int .i64 (-1)] 3)) rfl _ _ 22 rfl w6.heap.size 3 i0 (.int .i64 0) 8 Try.underlying22 hi hz0 hz1 hz2 rfl mkZ (fun _ => rfl) _ 1 [nof (-1)] (by rfl) HOW.out (below_allocs _ _) _ L (by rfl) (HR0.out.below (below_allocs _ _)) (by rw [HLN.out]; have := HKN.out; omega) (by rw [HLN.out]; have := HKN.out; omega) (by simp) ?_); intro v' wn hown1 hbel1)
          have HR1 : Hid (Rd mkZ wn v' ([nof (-1)] ++ L)) := infoZ_rd (by simp; omega) hown1
          have HV7 := hide ((HV6.out.below hbel1).mono (show _ ≤ 40 + (k + 1) by omega))
          have HB7 := hide (below_trans HB.out hbel1)
          have HL1 := hide (HLL.out.cons (nof (-1)) (by rw [← HD0.out, HSD.out] <;> rfl))
          clear hown1 hbel1 HOW HV6 HR0 HB HLL HLN
          go_wp2
          go_roundw
          case rel => exact ⟨k + 1, (X + 1) / 2 ^ 2, _, by omega, by go_num, HX2, HV7, HL1, HR1, HB7⟩
          case measure => simp [intOf]; omega
      · obtain ⟨d, hd⟩ : ∃ d, X % 4 = d := ⟨_, rfl⟩
        have HX2 : Hid ((X - d) / 2 ^ 2 = rQ a (k + 1)) := by apply hide; rw [← hd, spQ_less h3]; exact HXS.out
        have HSD : Hid (spD X = ((d : Nat) : Int)) := by apply hide; unfold spD; rw [if_neg h3, hd]
        have HDD := hide (show d < 4 by omega)
        have HDX := hide (show d ≤ X by omega)
        have hd3 : ¬ ((d : Nat) : Int) = 3 := by omega
        have hdu : IntKind.u64.wrap ((d : Nat) : Int) = ((d : Nat) : Int) := by rw [IntKind.wrap_u64]; omega
        have hdi : IntKind.i64.wrap ((d : Nat) : Int) = ((d : Nat) : Int) := by rw [IntKind.wrap_i64]; omega
        by_cases hl1 : 0 < lb.length
        · have hl0 : (0 : Int) < (lb.length : Int) := by omega
          have HR0 := hide HR.out
          clear HR
          rcases HCE.out with hc0 | ⟨b, off, rfl, hbl, hcell⟩
          · omega
          · have hck : wr.cell? ⟨b, off, none⟩ = some (.int .u32 (dg lb 0 : Nat)) := by have h := hcell 0 (by omega); rw [Nat.add_zero] at h; exact h
            rw [HD.out] at hck
            have hm4 : ((X % BB : Nat) : Int) % 4 = ((X % 4 : Nat) : Int) := by
              have h : X % BB % 4 = X % 4 := by show X % 4294967296 % 4 = X % 4; omega
              rw [← h]; omega
            clear hcell HLX
            rw [hd] at hm4
            generalize X % BB = y at *
            clear h3 hd HXS
            have HSM := hide (fun w => small_any d (by have := HDD.out; omega) w)
            go_wp2_with fail
            refine (HSM.out _).mono ?_
            rintro e w3 ⟨v3, rfl, hv3, hb3⟩
            replace HBV := hide (HBV.out.below hb3)
            replace HR0 := hide (HR0.out.below hb3)
            replace HB := hide (below_trans HB.out hb3)
            have HV3 := hide hv3
            clear hb3 hv3
            clear HSM
            go_wp2_with fail
            refine (refSub_any X d (40 + k) 2 _ _ _ HBV.out HV3.out (by have := HKN.out; omega) HDX.out).mono ?_
            rintro e w4 ⟨v4, rfl, hv4, hb4⟩
            clear HBV
            clear HV3
            replace HR0 := hide (HR0.out.below hb4)
            replace HB := hide (below_trans HB.out hb4)
            have HV4 := hide hv4
            clear hb4 hv4
            have HV5 := hide (HV4.out.mono (show _ ≤ 40 + (k + 1) by omega))
            clear HV4
            go_wp2_with fail
            refine (refShr_any (X - d) (40 + (k + 1)) 2 _ _ HV5.out (by have := HKN.out; omega) (by omega)).mono ?_
            rintro e w6 ⟨v6, rfl, hv6, hb6⟩
            clear HV5
            replace HR0 := hide (HR0.out.below hb6)
            replace HB := hide (below_trans HB.out hb6)
            have HV6 := hide hv6
            clear hb6 hv6
            have HOW := hide (owns_lit1 w6 ((d : Nat) : Int) (by omega))
            have HLN := hide (show L.length = k from HLL.out.1)
            go_wp2_with (at_builtin; (refine wpList_appS w6 (w6.alloc (.cells #[.int .i64 ((d : Nat) : Int)] 3)) rfl _ _ 22 rfl w6.heap.size 3 i0 (.int .i64 0) 8 Try.underlying22 hi hz0 hz1 hz2 rfl mkZ (fun _ => rfl) _ 1 [nof ((d : Nat) : Int)] (by rfl) HOW.out (below_allocs _ _) _ L (by rfl) (HR0.out.below (below_allocs _ _)) (by rw [HLN.out]; have := HKN.out; omega) (by rw [HLN.out]; have := HKN.out; omega) (by simp) ?_); intro v' wn hown1 hbel1)
            have HR1 : Hid (Rd mkZ wn v' ([nof ((d : Nat) : Int)] ++ L)) := infoZ_rd (by simp; omega) hown1
            have HV7 := hide ((HV6.out.below hbel1).mono (show _ ≤ 40 + (k + 1) by omega))
            have HB7 := hide (below_trans HB.out hbel1)
            have HL1 := hide (HLL.out.cons (nof ((d : Nat) : Int)) (by rw [← HD0.out, HSD.out] <;> rfl))
            clear hown1 hbel1 HOW HV6 HR0 HB HLL HLN
            go_wp2
            go_roundw
            case rel => exact ⟨k + 1, (X - d) / 2 ^ 2, _, by omega, by go_num, HX2, HV7, HL1, HR1, HB7⟩
            case measure => simp [intOf]; omega
        · have hl0 : ¬ (0 : Int) < (lb.length : Int) := by omega
          have HR0 := hide HR.out
          have hX0 := HLX.out (by omega)
          obtain rfl : d = 0 := by omega
          clear HR h3 hd HXS HLX HCE HD hX0 hdu hdi hd3
          have HSM := hide (fun w => small_any 0 (by have := HDD.out; omega) w)
          go_wp2_with fail
          refine (HSM.out _).mono ?_
          rintro e w3 ⟨v3, rfl, hv3, hb3⟩
          replace HBV := hide (HBV.out.below hb3)
          replace HR0 := hide (HR0.out.below hb3)
          replace HB := hide (below_trans HB.out hb3)
          have HV3 := hide hv3
          clear hb3 hv3
          clear HSM
          go_wp2_with fail
          refine (refSub_any X 0 (40 + k) 2 _ _ _ HBV.out HV3.out (by have := HKN.out; omega) HDX.out).mono ?_
          rintro e w4 ⟨v4, rfl, hv4, hb4⟩
          clear HBV
          clear HV3
          replace HR0 := hide (HR0.out.below hb4)
          replace HB := hide (below_trans HB.out hb4)
          have HV4 := hide hv4
          clear hb4 hv4
          have HV5 := hide (HV4.out.mono (show _ ≤ 40 + (k + 1) by omega))
          clear HV4
          go_wp2_with fail
          refine (refShr_any (X - 0) (40 + (k + 1)) 2 _ _ HV5.out (by have := HKN.out; omega) (by omega)).mono ?_
          rintro e w6 ⟨v6, rfl, hv6, hb6⟩
          clear HV5
          replace HR0 := hide (HR0.out.below hb6)
          replace HB := hide (below_trans HB.out hb6)
          have HV6 := hide hv6
          clear hb6 hv6
          have HOW := hide (owns_lit1 w6 0 (by omega))
          have HLN := hide (show L.length = k from HLL.out.1)
          go_wp2_with (at_builtin; (refine wpList_appS w6 (w6.alloc (.cells #[.int .i64 0] 3)) rfl _ _ 22 rfl w6.heap.size 3 i0 (.int .i64 0) 8 Try.underlying22 hi hz0 hz1 hz2 rfl mkZ (fun _ => rfl) _ 1 [nof 0] (by rfl) HOW.out (below_allocs _ _) _ L (by rfl) (HR0.out.below (below_allocs _ _)) (by rw [HLN.out]; have := HKN.out; omega) (by rw [HLN.out]; have := HKN.out; omega) (by simp) ?_); intro v' wn hown1 hbel1)
          have HR1 : Hid (Rd mkZ wn v' ([nof 0] ++ L)) := infoZ_rd (by simp; omega) hown1
          have HV7 := hide ((HV6.out.below hbel1).mono (show _ ≤ 40 + (k + 1) by omega))
          have HB7 := hide (below_trans HB.out hbel1)
          have HL1 := hide (HLL.out.cons (nof 0) (by rw [← HD0.out, HSD.out] <;> rfl))
          clear hown1 hbel1 HOW HV6 HR0 HB HLL HLN
          go_wp2
          go_roundw
          case rel => exact ⟨k + 1, (X - 0) / 2 ^ 2, _, by omega, by go_num, HX2, HV7, HL1, HR1, HB7⟩
          case measure => simp [intOf]; omega
    · have hk : k = n := by omega
      subst hk
      obtain ⟨bo, lb, cb, rfl⟩ := bigz_slice HBV.out
      have HLN := hide (refLen_any X (40 + k) _ wr HBV.out (by omega))
      obtain ⟨q, hq⟩ : ∃ q, Go.bitLen X = q := ⟨_, rfl⟩
      have HQ : Hid ((((q : Nat) : Int) == 0) = decide (rQ a k = 0)) := by
        apply hide
        rw [← hq, ← HX.out, Bool.eq_iff_iff]
        simp only [beq_iff_eq, decide_eq_true_eq]
        rw [← blen0 X]
        omega
      rw [hq] at HLN
      clear hq HBV
      obtain ⟨ro, lr, cr, rfl⟩ := rdz_slice HR.out
      go_wp2_with fail
      refine HLN.out.mono ?_
      rintro e w9 ⟨rfl, hw⟩
      subst hw
      clear HLN
      go_wp2
      exact bodyPost_ret (v := .tuple #[.slice ro lr cr, .bool (((q : Nat) : Int) == 0)]) (by simp [results, Try.results19, go_sem]) rfl ⟨_, L, by rw [HQ.out], HR.out, HLL.out, HB.out⟩
end Go.Proofs.Ytgnaomgcfliamaa

/- Contracts: law 13's awake; == of states; a row of ints that came in. -/
set_option linter.unusedVariables false
set_option linter.unusedSimpArgs false
set_option maxRecDepth 8000
namespace Go.Proofs.Ytgnaomgcfliamaa
open Go.RowKit Plain

theorem w8_14 : (#[.int .u64 (dgl (14) 0 : Nat), .int .u64 (dgl (14) 1 : Nat), .int .u64 (dgl (14) 2 : Nat), .int .u64 (dgl (14) 3 : Nat), .int .u64 (dgl (14) 4 : Nat), .int .u64 (dgl (14) 5 : Nat), .int .u64 (dgl (14) 6 : Nat), .int .u64 (dgl (14) 7 : Nat)] : Array Value) = #[.int .u64 14, .int .u64 0, .int .u64 0, .int .u64 0, .int .u64 0, .int .u64 0, .int .u64 0, .int .u64 0] := by simp [dgl]
theorem ds_rd (w : World) (e : TypeId) : Rd mkZ (w.alloc (.cells #[.int .i64 1, .int .i64 (-1), .int .i64 2] e)) (.slice (some ⟨w.heap.size, 0, none⟩) 3 3) [nof 1, nof (-1), nof 2] :=
  Rd.lit (mk := mkZ) w e [.int .i64 1, .int .i64 (-1), .int .i64 2] [nof 1, nof (-1), nof 2] rfl 3 (Nat.le_refl 3) (by decide)
theorem ds_all : allD [nof 1, nof (-1), nof 2] 3 := by
  intro i hi
  match i with
  | 0 => rfl
  | 1 => rfl
  | 2 => rfl
  | i + 3 => omega
theorem ds_num : pZ [nof 1, nof (-1), nof 2] 3 = 14 := by decide
theorem ds_rec : rQ 14 3 = 0 := by decide
theorem ds_get (k : Nat) (hk : k < 3) : nof (spD (rQ 14 (3 - 1 - k))) = dg [nof 1, nof (-1), nof 2] k := by
  match k with
  | 0 => decide
  | 1 => decide
  | 2 => decide
  | k + 3 => omega

/-- What awake goes by: a number in a box. -/
structure Aw13 (p : Nat) (w W : World) : Prop where
  l : LiesF W p (dgl 14)
  bel : Below w.heap.size w W
theorem Aw13.below {p : Nat} {w W W' : World} (h : Aw13 p w W) (hb : Below W.heap.size W W') : Aw13 p w W' := ⟨h.l.below hb, below_trans h.bel hb⟩

set_option maxHeartbeats 2000000 in
theorem awake13_any (w : World) : Calls Try.prog 7 #[] w fun e w' => e = .returned (.bool true) ∧ Below w.heap.size w w' := by
  have HCV : Hid (∀ w, Calls Try.prog 8 #[.slice (some ⟨w.heap.size, 0, none⟩) 3 3] (w.alloc (.cells #[.int .i64 1, .int .i64 (-1), .int .i64 2] 3)) fun e w' => e = .returned (.tuple #[.agg #[.int .u64 (dgl (14) 0 : Nat), .int .u64 (dgl (14) 1 : Nat), .int .u64 (dgl (14) 2 : Nat), .int .u64 (dgl (14) 3 : Nat), .int .u64 (dgl (14) 4 : Nat), .int .u64 (dgl (14) 5 : Nat), .int .u64 (dgl (14) 6 : Nat), .int .u64 (dgl (14) 7 : Nat)], .bool true]) ∧ Below w.heap.size w w') := by
    intro w
    refine (convert_yes [nof 1, nof (-1), nof 2] _ _ (ds_rd w 3) (by decide) ds_all).mono ?_
    rintro e w' ⟨rfl, hb⟩
    have e1 : qz (pZ [nof 1, nof (-1), nof 2] [nof 1, nof (-1), nof 2].length) = 14 := by
      show qz (pZ [nof 1, nof (-1), nof 2] 3) = 14
      rw [ds_num]
      exact qz_nat (x := 14) (by have := qq_big; omega)
    rw [e1]
    exact ⟨rfl, (below_allocs w _).trans (hb.mono (by simp))⟩
  have HRC : Hid (∀ w, Calls Try.prog 18 #[.agg #[.int .u64 14, .int .u64 0, .int .u64 0, .int .u64 0, .int .u64 0, .int .u64 0, .int .u64 0, .int .u64 0], .int .i64 3] w fun e w' => ∃ v, e = .returned (.tuple #[v, .bool true]) ∧ Rd mkZ w' v [nof 1, nof (-1), nof 2] ∧ Below w.heap.size w w') := by
    intro w
    rw [← w8_14]
    refine (recode_any 14 3 (by have := qq_big; omega) (by decide) w).mono ?_
    rintro e w' ⟨hb, h | h⟩
    · obtain ⟨_, v, L, rfl, hr, hl, hg⟩ := h
      have hL : L = [nof 1, nof (-1), nof 2] := by
        match L, hl with
        | [x, y, z], _ =>
          have h0 := hg 0 (by omega)
          have h1 := hg 1 (by omega)
          have h2 := hg 2 (by omega)
          rw [ds_get _ (by omega)] at h0 h1 h2
          simp [dg] at h0 h1 h2
          rw [h0, h1, h2]
      rw [hL] at hr
      exact ⟨v, rfl, hr, hb⟩
    · exact absurd ds_rec h.1
  have HSM : Hid (∀ v w, Rd mkZ w v [nof 1, nof (-1), nof 2] → Calls Try.prog 20 #[v, .slice (some ⟨w.heap.size, 0, none⟩) 3 3] (w.alloc (.cells #[.int .i64 1, .int .i64 (-1), .int .i64 2] 3)) fun e w' => e = .returned (.bool true) ∧ Below w.heap.size w w') := by
    intro v w hv
    refine (same13_any _ _ _ _ _ (hv.below (below_allocs w _)) (ds_rd w 3) (by decide) rfl (fun i hi => rfl)).mono ?_
    rintro e w' ⟨rfl, hb⟩
    exact ⟨rfl, (below_allocs w _).trans (hb.mono (by simp))⟩
  have hq : ∀ w, (Op.equalIn 10000 26 (.agg #[.int .u64 (dgl (14) 0 : Nat), .int .u64 (dgl (14) 1 : Nat), .int .u64 (dgl (14) 2 : Nat), .int .u64 (dgl (14) 3 : Nat), .int .u64 (dgl (14) 4 : Nat), .int .u64 (dgl (14) 5 : Nat), .int .u64 (dgl (14) 6 : Nat), .int .u64 (dgl (14) 7 : Nat)]) (.agg #[.int .u64 14, .int .u64 0, .int .u64 0, .int .u64 0, .int .u64 0, .int .u64 0, .int .u64 0, .int .u64 0])).run Try.prog w = .ok true w := by
    intro w
    have h := wide_eqb (a := 14) (b := 14) (by have := qq_big; omega) (by have := qq_big; omega) w
    rw [decide_eq_true rfl] at h
    rw [← w8_14]
    exact h
  generalize h14 : (14 : Nat) = N at HCV hq
  go_enter Try.func7, Try.ntmps7
  go_wp2_with fail
  refine (HCV.out _).mono ?_
  rintro e w1 ⟨rfl, hb1⟩
  have HB := hide hb1
  clear hb1 HCV
  go_upto_region 2 with fail
  have hbw := below_allocs w1 (.cells #[.int .u64 (dgl (N) 0 : Nat), .int .u64 (dgl (N) 1 : Nat), .int .u64 (dgl (N) 2 : Nat), .int .u64 (dgl (N) 3 : Nat), .int .u64 (dgl (N) 4 : Nat), .int .u64 (dgl (N) 5 : Nat), .int .u64 (dgl (N) 6 : Nat), .int .u64 (dgl (N) 7 : Nat)] 26)
  refine wp_gen (fun W => Aw13 w1.heap.size w W) ⟨by rw [h14]; exact liesF_new w1 (dgl N) _, below_trans HB.out hbw⟩ ?_
  clear hbw HB
  generalize w1.heap.size = p at *
  rintro W2 h2
  have HS := hide h2
  clear h2
  go_wp2_with fail
  refine (HRC.out _).mono ?_
  rintro e w3 ⟨v, rfl, hv, hb3⟩
  replace HS := hide (HS.out.below hb3)
  have HV := hide hv
  clear hv hb3 HRC
  subst h14
  have hl := HS.out.l.1
  go_wp2_with fail
  refine (HSM.out _ _ HV.out).mono ?_
  rintro e w4 ⟨rfl, hb4⟩
  have HB := hide (below_trans HS.out.bel hb4)
  clear HS hb4 hl HSM HV
  go_wp2
  go_ret
  exact ⟨rfl, HB.out⟩

/-- A row of ints that came in. -/
theorem IsRow.rdZ {w : World} {a : Option Addr} {len cap : Nat} {zs : List Int} (h : IsRow .i64 w a len cap zs) :
    ∃ l, l.length = len ∧ Rd mkZ w (.slice a len cap) l ∧ ∀ i, i < l.length → dg l i < 18446744073709551616 := by
  rcases h with ⟨rfl, rfl, rfl, rfl⟩ | ⟨x, rfl, hl, hm, hz, hcell, hwf⟩
  · exact ⟨[], rfl, Rd.nil mkZ w, fun i hi => absurd hi (by simp)⟩
  · have hlen : ((zs.take len).map nof).length = len := by simp; omega
    have hdg : ∀ i, i < len → zof (dg ((zs.take len).map nof) i) = zs.getD i 0 ∧ dg ((zs.take len).map nof) i < 18446744073709551616 := by
      intro i hi
      have hi2 : i < zs.length := by omega
      have hb := i64_bd (hwf zs[i] (List.getElem_mem hi2))
      have e : dg ((zs.take len).map nof) i = nof zs[i] := by simp [dg, hi, hi2]
      rw [e, zof_nof hb.1]
      refine ⟨by simp [hi2], ?_⟩
      unfold nof; omega
    refine ⟨(zs.take len).map nof, hlen, ?_, fun i hi => (hdg i (by rw [← hlen]; exact hi)).2⟩
    refine ⟨some x, cap, by rw [hlen], by rw [hlen]; exact hl, hm, ?_⟩
    rw [hlen]
    by_cases h0 : len = 0
    · exact .inl h0
    · obtain ⟨b, off, rfl, hc⟩ := ints_at hcell (by omega)
      refine .inr ⟨b, off, rfl, World.block_lt_of_cell? w ⟨b, off + 0, none⟩ (hc 0 (by omega)), fun i hi => ?_⟩
      rw [hc i (by omega)]
      unfold mkZ
      rw [(hdg i hi).1]
end Go.Proofs.Ytgnaomgcfliamaa

/- A region in the order of its text, each operation by itself, over a table that says what each slot holds (as Grow's law does it for one that draws its order). -/
set_option linter.unusedVariables false
set_option linter.unusedSimpArgs false
set_option maxRecDepth 8000
namespace Go.Proofs.Ytgnaomgcfliamaa
open Go.RowKit

section
variable {P : Program} {ops : Array Oper} {n : Nat} {a : Act} {T : List (Nat × SlotIs)} {C : World → Prop} {Q : Exit → Act → World → Prop}

/-- What is asked of the region's form: an operation looks only at what stands ahead of it; no slot is written twice. -/
def qOkB (ops : Array Oper) (dsts : List Nat) : Bool :=
  (List.range ops.size).all (fun j => match ops[j]? with
    | some o => (o.looksAt ops).all (fun t => (List.range ops.size).all fun i => match ops[i]? with
        | some oi => (match oi.dst with | some d => !Nat.beq d t || Nat.blt i j | none => true)
        | none => true)
    | none => false) &&
  decide ((ops.toList.filterMap (·.dst)) = dsts) && decide dsts.Nodup

theorem seq_any (hB : qOkB ops (T.map Prod.fst) = true) (hCs : ∀ w w', C w → Below w.heap.size w w' → C w') (hsz : ∀ d ∈ T.map Prod.fst, d < a.tmps.size)
    (hst : gSteps P ops a T C ops.toList) (hf : ∀ w', C w' → gFin a T (fun a' => Q .normal a' w') w' ops.toList a) :
    ∀ (f j : Nat) (listed : Array Bool) (A : Act) (w : World), j + f = ops.size → listed.size = ops.size → (∀ i, i < ops.size → listed.getD i true = decide (i < j)) →
      GInv ops ops.size a T C listed A w → wpOps P ops Q (List.range' j f) A w := by
  simp only [qOkB, Bool.and_eq_true, decide_eq_true_eq] at hB
  obtain ⟨⟨hlook, hd⟩, hnd⟩ := hB
  have htake : ops.toList.take ops.size = ops.toList := List.take_of_length_le (by simp)
  have hlk : ∀ j o, j < ops.size → ops[j]? = some o → ∀ t ∈ o.looksAt ops, ∀ i oi, i < ops.size → ops[i]? = some oi → oi.dst = some t → i < j := by
    intro j o hj ho t ht i oi hi hoi hdi
    have h1 := List.all_eq_true.1 hlook j (List.mem_range.2 hj)
    simp only [ho] at h1
    have h2 := List.all_eq_true.1 (List.all_eq_true.1 h1 t ht) i (List.mem_range.2 hi)
    simp only [hoi, hdi, Bool.or_eq_true] at h2
    rcases h2 with h2 | h2
    · have : Nat.beq t t = true := Nat.beq_refl t
      rw [this] at h2; cases h2
    · simpa [Nat.blt_eq] using h2
  have hdst : ∀ i o, i < ops.size → ops[i]? = some o → ∀ d, o.dst = some d → d ∈ T.map Prod.fst := fun i o hi ho d hdo => by
    rw [← hd]
    refine List.mem_filterMap.2 ⟨o, ?_, hdo⟩
    rw [List.mem_iff_getElem?]
    exact ⟨i, by rw [Array.getElem?_toList]; exact ho⟩
  intro f
  induction f with
  | zero =>
    intro j listed A w hj hsl hl inv
    have hQ := gFin_use (a := a) (T := T) (w := w) _ A a inv.sz inv.df (by rw [hd]; exact hnd) (fun t ht => inv.kept t (by rw [← hd]; exact ht)) (fun d hdm => inv.known d (fun i oi hi hoi hli => by rw [hl i hi] at hli; simp at hli; omega)) (hf w inv.c)
    simpa [wpOps] using hQ
  | succ f ih =>
    intro j listed A w hj hsl hl inv
    have hjn : j < ops.size := by omega
    have ho : ops[j]? = some ops[j] := by simp [hjn]
    generalize ops[j] = o at ho
    rw [List.range'_succ, wpOps_cons]
    have hstep := gSteps_get _ j o (by rw [Array.getElem?_toList]; exact ho) hst A w inv.c (fun t ht => inv.known t (fun i oi hi hoi hli hdi => by
      have h1 := hlk j o hjn ho t ht i oi hi hoi hdi
      rw [hl i hi] at hli
      simp at hli
      omega))
    have go : ∀ v w', gPost a T o w v w' → wpOps P ops Q (List.range' (j + 1) f) (A.put o.dst v) w' := fun v w' hp => by
      refine ih (j + 1) (listed.setIfInBounds j true) _ _ (by omega) (by simpa using hsl) (fun i hi => ?_) (gInv_step hCs (by rw [htake]; exact hd) ho hjn (fun d h => hsz d (hdst j o hjn ho d h)) inv hp)
      by_cases hij : j = i
      · subst hij
        have : j < listed.size := by omega
        simp [this]
      · rw [getD_set_ne true hij, hl i hi, decide_eq_decide]
        omega
    unfold wpOp
    simp only [ho]
    split
    · rename_i hw
      simp only [hw, if_true] at hstep
      exact .inl (wp_of_gOp go hstep)
    · rename_i hw
      simp only [hw] at hstep
      exact go _ _ hstep

theorem wp_region_seq {id : Nat} {w : World} {l : List Oper} (n : Nat) (T : List (Nat × SlotIs)) (C : World → Prop) (hn : n = l.length) (hB : qOkB l.toArray (T.map Prod.fst) = true)
    (hsz : (T.map Prod.fst).all (fun d => Nat.blt d a.tmps.size) = true) (hC : C w) (hCs : ∀ w w', C w → Below w.heap.size w w' → C w')
    (hst : gSteps P l.toArray a T C (l.take n)) (hf : ∀ w', C w' → gFin a T (fun a' => Q .normal a' w') w' (l.take n) a) :
    (Code.region id l.toArray false).wp P Q a w := by
  subst hn
  rw [List.take_of_length_le (Nat.le_refl _)] at hst hf
  refine wp_region ?_
  rw [List.range_eq_range']
  refine seq_any (T := T) (C := C) hB hCs (fun d hd => by have := List.all_eq_true.1 hsz d hd; simpa [Nat.blt_eq] using this) (by simpa using hst) (by simpa using hf) l.toArray.size 0 (Array.replicate l.toArray.size false) a w (by omega) (by simp) (fun i hi => by rw [getD_in (by simpa using hi) (getD_replicate_false _ _)]; simp) ⟨hC, rfl, rfl, fun _ _ => rfl, fun t ht => tbl_out a t _ _ rfl T (fun hmem => by
      have hd : (l.toArray.toList.filterMap (·.dst)) = T.map Prod.fst := by
        simp only [qOkB, Bool.and_eq_true, decide_eq_true_eq] at hB
        exact hB.1.2
      rw [← hd] at hmem
      obtain ⟨o, ho, hdo⟩ := List.mem_filterMap.1 hmem
      obtain ⟨i, hi⟩ := List.mem_iff_getElem?.1 ho
      have hil : i < l.length := by
        rcases Nat.lt_or_ge i l.length with h | h
        · exact h
        · rw [List.getElem?_eq_none (by simpa using h)] at hi; cases hi
      exact ht i o (by simpa using hil) (by simpa using hi) (by simp [hil]) hdo)⟩
end
end Go.Proofs.Ytgnaomgcfliamaa

