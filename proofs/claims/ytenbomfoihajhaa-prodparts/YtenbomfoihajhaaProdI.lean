/- Contracts: prod.Part. -/
import Derived.Test.YtenbomfoihajhaaProdH
set_option linter.unusedVariables false
set_option linter.unusedSimpArgs false
set_option maxRecDepth 8000
namespace Go.Proofs.Ytenbomfoihajhaa
open Go.RowKit Plain

theorem part1_any (p q B : Nat) (w : World) (hc : w.cell? ⟨B, 0, none⟩ = some (.int .i64 (p : Nat))) :
    Calls Try.prog 82 #[.int .i64 (q : Nat), .pointer (some ⟨B, 0, none⟩)] w fun e w' => e = .returned (.bool (fromP p q)) ∧ w' = w := by
  have hd : decide (p ≤ q) = fromP p q := rfl
  go_enter Try.func82, Try.ntmps82
  go_wp2
  go_ret
  exact ⟨ret_bool hd, rfl⟩

structure PartSt (w : World) (p : Int) (fa fb : Nat → Nat) (W : World) : Prop where
  la : LiesF W w.heap.size fa
  lb : LiesF W (w.heap.size + 1) fb
  lp : W.cell? ⟨w.heap.size + 1 + 1, 0, none⟩ = some (.int .i64 p)
  fp : W.frozen? ⟨w.heap.size + 1 + 1, 0, none⟩ = false
  lr : LiesF W (w.heap.size + 1 + 1 + 1) (fun _ => 0)
  fr : ∀ i, W.frozen? ⟨w.heap.size + 1 + 1 + 1, i, none⟩ = false
  bel : Below w.heap.size w W
theorem PartSt.below {w : World} {p : Int} {fa fb : Nat → Nat} {W W' : World} (h : PartSt w p fa fb W) (hb : Below W.heap.size W W') : PartSt w p fa fb W' := by
  have hs := h.lr.2
  exact ⟨h.la.below hb, h.lb.below hb, (hb.cell (p := ⟨w.heap.size + 1 + 1, 0, none⟩) (show w.heap.size + 1 + 1 < _ by omega)).trans h.lp, (hb.frozen (p := ⟨w.heap.size + 1 + 1, 0, none⟩) (show w.heap.size + 1 + 1 < _ by omega)).trans h.fp, h.lr.below hb, fun i => (hb.frozen (p := ⟨w.heap.size + 1 + 1 + 1, i, none⟩) h.lr.2).trans (h.fr i), below_trans h.bel hb⟩
theorem PartSt.start (w : World) (p : Int) (fa fb : Nat → Nat) : PartSt w p fa fb ((((w.alloc (.cells #[.int .u64 (fa 0 : Nat), .int .u64 (fa 1 : Nat), .int .u64 (fa 2 : Nat), .int .u64 (fa 3 : Nat), .int .u64 (fa 4 : Nat), .int .u64 (fa 5 : Nat), .int .u64 (fa 6 : Nat), .int .u64 (fa 7 : Nat)] 24)).alloc (.cells #[.int .u64 (fb 0 : Nat), .int .u64 (fb 1 : Nat), .int .u64 (fb 2 : Nat), .int .u64 (fb 3 : Nat), .int .u64 (fb 4 : Nat), .int .u64 (fb 5 : Nat), .int .u64 (fb 6 : Nat), .int .u64 (fb 7 : Nat)] 24)).alloc (.cells #[.int .i64 p] 3)).alloc (.cells #[.int .u64 0, .int .u64 0, .int .u64 0, .int .u64 0, .int .u64 0, .int .u64 0, .int .u64 0, .int .u64 0] 24)) := by
  have h1 := ((liesF_new w fa 24).alloc (.cells #[.int .u64 (fb 0 : Nat), .int .u64 (fb 1 : Nat), .int .u64 (fb 2 : Nat), .int .u64 (fb 3 : Nat), .int .u64 (fb 4 : Nat), .int .u64 (fb 5 : Nat), .int .u64 (fb 6 : Nat), .int .u64 (fb 7 : Nat)] 24)).alloc (.cells #[.int .i64 p] 3)
  have h2 := (liesF_new (w.alloc (.cells #[.int .u64 (fa 0 : Nat), .int .u64 (fa 1 : Nat), .int .u64 (fa 2 : Nat), .int .u64 (fa 3 : Nat), .int .u64 (fa 4 : Nat), .int .u64 (fa 5 : Nat), .int .u64 (fa 6 : Nat), .int .u64 (fa 7 : Nat)] 24)) fb 24).alloc (.cells #[.int .i64 p] 3)
  have h3 := liesF_new (((w.alloc (.cells #[.int .u64 (fa 0 : Nat), .int .u64 (fa 1 : Nat), .int .u64 (fa 2 : Nat), .int .u64 (fa 3 : Nat), .int .u64 (fa 4 : Nat), .int .u64 (fa 5 : Nat), .int .u64 (fa 6 : Nat), .int .u64 (fa 7 : Nat)] 24)).alloc (.cells #[.int .u64 (fb 0 : Nat), .int .u64 (fb 1 : Nat), .int .u64 (fb 2 : Nat), .int .u64 (fb 3 : Nat), .int .u64 (fb 4 : Nat), .int .u64 (fb 5 : Nat), .int .u64 (fb 6 : Nat), .int .u64 (fb 7 : Nat)] 24)).alloc (.cells #[.int .i64 p] 3)) (fun _ => 0) 24
  simp only [World.size_alloc] at h2 h3
  exact ⟨h1.alloc _, h2.alloc _, by simp [go_sem], by simp [go_sem], h3, fun i => by simp [go_sem], below_trans (below_trans (below_trans (below_allocs _ _) (below_allocs _ _)) (below_allocs _ _)) (below_allocs _ _)⟩
theorem PartSt.setp {w : World} {p q : Int} {fa fb : Nat → Nat} {W : World} (h : PartSt w p fa fb W) : PartSt w q fa fb (W.setCell ⟨w.heap.size + 1 + 1, 0, none⟩ (.int .i64 q)) := by
  refine ⟨⟨fun i hi => ?_, by simpa using h.la.2⟩, ⟨fun i hi => ?_, by simpa using h.lb.2⟩, ?_, by simpa [go_sem] using h.fp, ⟨fun i hi => ?_, by simpa using h.lr.2⟩, fun i => by simpa [go_sem] using h.fr i, h.bel.setCell (by simp; omega) _⟩
  · have := h.la.1 i hi; simp [go_sem, this]
  · have := h.lb.1 i hi; simp [go_sem, this]
  · have := h.lp; simp [go_sem, this]
  · have := h.lr.1 i hi; simp [go_sem, this]

theorem dgl_shift (n p i : Nat) : dgl n (p + i) = dgl (n / LW ^ p) i := by
  unfold dgl LW
  rw [Nat.pow_add, Nat.div_div_eq_div_mul]

theorem of_part (S p b : Nat) (W : World) (hS : S < LW ^ 16) (hp : p ≤ 16) (h : Lies16 W b S) (x : Nat) (hx : x = 16 - p) :
    Calls Try.prog 71 #[.slice (some ⟨b, p, none⟩) x x] W fun e w' => e = .returned (.agg #[.int .u64 (dgl (S / LW ^ p) 0 : Nat), .int .u64 (dgl (S / LW ^ p) 1 : Nat), .int .u64 (dgl (S / LW ^ p) 2 : Nat), .int .u64 (dgl (S / LW ^ p) 3 : Nat), .int .u64 (dgl (S / LW ^ p) 4 : Nat), .int .u64 (dgl (S / LW ^ p) 5 : Nat), .int .u64 (dgl (S / LW ^ p) 6 : Nat), .int .u64 (dgl (S / LW ^ p) 7 : Nat)]) ∧ Below W.heap.size W w' := by
  subst hx
  refine wideOf_any _ (S / LW ^ p) _ W (rd_part h hp) (fun i hi => ?_)
  rw [← dgl_shift]
  by_cases h2 : i < 16 - p
  · simp [dg, h2]
  · rw [getD_past _ _ (by simp; omega)]
    show 0 = S / LW ^ (p + i) % LW
    rw [Nat.div_eq_of_lt (Nat.lt_of_lt_of_le hS (Nat.pow_le_pow_right lw_pos (show 16 ≤ p + i by omega))), Nat.zero_mod]

set_option maxHeartbeats 2000000 in
theorem prodPart_far (a b : Nat) (place : Int) (hp : 14 < place) (w : World) :
    Calls Try.prog 50 #[.agg #[.int .u64 (dgl (a) 0 : Nat), .int .u64 (dgl (a) 1 : Nat), .int .u64 (dgl (a) 2 : Nat), .int .u64 (dgl (a) 3 : Nat), .int .u64 (dgl (a) 4 : Nat), .int .u64 (dgl (a) 5 : Nat), .int .u64 (dgl (a) 6 : Nat), .int .u64 (dgl (a) 7 : Nat)], .agg #[.int .u64 (dgl (b) 0 : Nat), .int .u64 (dgl (b) 1 : Nat), .int .u64 (dgl (b) 2 : Nat), .int .u64 (dgl (b) 3 : Nat), .int .u64 (dgl (b) 4 : Nat), .int .u64 (dgl (b) 5 : Nat), .int .u64 (dgl (b) 6 : Nat), .int .u64 (dgl (b) 7 : Nat)], .int .i64 place] w fun e w' => e = .returned (.agg #[.int .u64 0, .int .u64 0, .int .u64 0, .int .u64 0, .int .u64 0, .int .u64 0, .int .u64 0, .int .u64 0]) ∧ Below w.heap.size w w' := by
  have HST := hide (PartSt.start w place (dgl a) (dgl b))
  go_enter Try.func50, Try.ntmps50
  go_upto_region 1 with fail
  refine wp_gen (fun W => PartSt w place (dgl a) (dgl b) W) HST.out ?_
  rintro W1 h1
  clear HST
  have hcp := h1.lp
  have hr := h1.lr.1
  have hrf := h1.fr
  have hl := h1.lr.2
  have HB := hide h1.bel
  clear h1
  go_wp2
  exact bodyPost_ret (v := .agg #[.int .u64 0, .int .u64 0, .int .u64 0, .int .u64 0, .int .u64 0, .int .u64 0, .int .u64 0, .int .u64 0]) (by simp [results, Try.results50, go_sem, hr, hl]) rfl ⟨rfl, below_set8 HB.out _ (by omega) _ _ _ _ _ _ _ _⟩

theorem row_le (a b : Nat) (wt : Nat → Bool) (i : Nat) : ∀ k, rowS a b wt i k ≤ rowS a b (fun _ => true) i k
  | 0 => Nat.le_refl _
  | k + 1 => by
    unfold rowS
    refine Nat.add_le_add (row_le a b wt i k) (Nat.mul_le_mul_right _ ?_)
    unfold cw
    cases wt (i + k)
    · exact Nat.zero_le _
    · exact Nat.le_refl _
theorem all_le (a b : Nat) (wt : Nat → Bool) : ∀ i, allS a b wt i ≤ allS a b (fun _ => true) i
  | 0 => Nat.le_refl _
  | i + 1 => Nat.add_le_add (all_le a b wt i) (row_le a b wt i 8)
theorem summed_lt (a b : Nat) (wt : Nat → Bool) : allS a b wt 8 < LW ^ 16 := by
  refine Nat.lt_of_le_of_lt (all_le a b wt 8) ?_
  rw [all_all]
  have h1 := Nat.mod_lt a (Nat.pow_pos (n := 8) lw_pos)
  have h2 := Nat.mod_lt b (Nat.pow_pos (n := 8) lw_pos)
  have e : LW ^ 16 = LW ^ 8 * LW ^ 8 := by rw [← Nat.pow_add]
  rw [e]
  exact Nat.mul_lt_mul_of_lt_of_lt h1 h2

set_option maxHeartbeats 4000000 in
theorem prodPart_any (a b p : Nat) (place : Int) (hp : (p : Int) = max place 0) (h14 : place ≤ 14) (w : World) :
    Calls Try.prog 50 #[.agg #[.int .u64 (dgl (a) 0 : Nat), .int .u64 (dgl (a) 1 : Nat), .int .u64 (dgl (a) 2 : Nat), .int .u64 (dgl (a) 3 : Nat), .int .u64 (dgl (a) 4 : Nat), .int .u64 (dgl (a) 5 : Nat), .int .u64 (dgl (a) 6 : Nat), .int .u64 (dgl (a) 7 : Nat)], .agg #[.int .u64 (dgl (b) 0 : Nat), .int .u64 (dgl (b) 1 : Nat), .int .u64 (dgl (b) 2 : Nat), .int .u64 (dgl (b) 3 : Nat), .int .u64 (dgl (b) 4 : Nat), .int .u64 (dgl (b) 5 : Nat), .int .u64 (dgl (b) 6 : Nat), .int .u64 (dgl (b) 7 : Nat)], .int .i64 place] w fun e w' => e = .returned (.agg #[.int .u64 (dgl (allT a b p 8) 0 : Nat), .int .u64 (dgl (allT a b p 8) 1 : Nat), .int .u64 (dgl (allT a b p 8) 2 : Nat), .int .u64 (dgl (allT a b p 8) 3 : Nat), .int .u64 (dgl (allT a b p 8) 4 : Nat), .int .u64 (dgl (allT a b p 8) 5 : Nat), .int .u64 (dgl (allT a b p 8) 6 : Nat), .int .u64 (dgl (allT a b p 8) 7 : Nat)]) ∧ Below w.heap.size w w' := by
  have HST := hide (PartSt.start w place (dgl a) (dgl b))
  have HSU := hide (fun (w' : World) (hc : ∀ wr, Below w'.heap.size w' wr → wr.cell? ⟨w.heap.size + 1 + 1, 0, none⟩ = some (.int .i64 (p : Nat))) => summed_any 82 #[.pointer (some ⟨w.heap.size + 1 + 1, 0, none⟩)] (fromP p) a b w' (enters_of Try.func82 (by kernel_rfl) rfl) (fun q wr hq hb => by rw [app1]; exact part1_any p q (w.heap.size + 1 + 1) wr (hc wr hb)))
  have HOF := hide (fun W b' h x hx => of_part (allS a b (fromP p) 8) p b' W (summed_lt a b (fromP p)) (by omega) h x hx)
  rw [allS_div] at HOF
  generalize allS a b (fromP p) 8 = S at *
  generalize allT a b p 8 = T at *
  have hp14 : p ≤ 14 := by omega
  have HP := hide hp
  clear hp
  go_enter Try.func50, Try.ntmps50
  go_upto_region 1 with fail
  refine wp_gen (fun W => PartSt w place (dgl a) (dgl b) W) HST.out ?_
  rintro W1 h1
  clear HST
  have hcp := h1.lp
  have hfp := h1.fp
  have HST := hide h1
  clear h1
  have hn14 : ¬ 14 < place := by omega
  go_upto_region 3 with fail
  go_cut [12] (fun x wx => PartSt w (p : Int) (dgl a) (dgl b) wx)
  case first =>
    go_wp2
    all_goals
      go_meet
      rw [← HP.out]
      exact HST.out.setp
  case rest =>
    replace HST := hide hcut
    have hca := hcut.la.1
    have hcb := hcut.lb.1
    clear hcut hcp hfp
    go_wp2_with fail
    refine (HSU.out _ (fun wr hb => (HST.out.below hb).lp)).mono ?_
    rintro e w2 ⟨rfl, hb2⟩
    replace HST := hide (HST.out.below hb2)
    clear hb2 hca hcb HSU
    go_upto_region 5 with fail
    refine wp_gen (fun W => PartSt w (p : Int) (dgl a) (dgl b) W ∧ Lies16 W w2.heap.size S) ⟨HST.out.below (below_allocs _ _), lies16_new _ _ _⟩ ?_
    rintro W5 ⟨h5, h16⟩
    generalize w2.heap.size = p7 at *
    have hcp := h5.lp
    have hl7 := h16.2
    have HST := hide h5
    have H16 := hide h16
    clear h5 h16
    have hp14' : (p : Int) ≤ 16 := by omega
    have hpne : ¬ 16 = p := by omega
    go_wp2_with fail
    refine (HOF.out _ _ H16.out _ rfl).mono ?_
    rintro e w6 ⟨rfl, hb6⟩
    replace HST := hide (HST.out.below hb6)
    have hr := HST.out.lr.1
    have hrf := HST.out.fr
    have hl := HST.out.lr.2
    have HB := hide HST.out.bel
    clear hb6 hcp hl7
    go_wp2
    exact bodyPost_ret (v := .agg #[.int .u64 (dgl (T) 0 : Nat), .int .u64 (dgl (T) 1 : Nat), .int .u64 (dgl (T) 2 : Nat), .int .u64 (dgl (T) 3 : Nat), .int .u64 (dgl (T) 4 : Nat), .int .u64 (dgl (T) 5 : Nat), .int .u64 (dgl (T) 6 : Nat), .int .u64 (dgl (T) 7 : Nat)]) (by simp [results, Try.results50, go_sem, hr, hl]) rfl ⟨rfl, below_set8 HB.out _ (by omega) _ _ _ _ _ _ _ _⟩

end Go.Proofs.Ytenbomfoihajhaa
