/- Contracts: prod.Square, Small, Sum. -/
import Derived.Test.YtenbomfoihajhaaProdD
set_option linter.unusedVariables false
set_option linter.unusedSimpArgs false
set_option maxRecDepth 8000
namespace Go.Proofs.Ytenbomfoihajhaa
open Go.RowKit Plain

def SlotIs.rd (l : List Nat) : SlotIs := ⟨fun v w => Rd mk64 w v l, fun v w w' hb h => h.below hb⟩

set_option maxHeartbeats 1000000 in
theorem prodSquare_any (a : Nat) (ha : a < QQ) (w : World) :
    Calls Try.prog 45 #[.agg #[.int .u64 (dgl (a) 0 : Nat), .int .u64 (dgl (a) 1 : Nat), .int .u64 (dgl (a) 2 : Nat), .int .u64 (dgl (a) 3 : Nat), .int .u64 (dgl (a) 4 : Nat), .int .u64 (dgl (a) 5 : Nat), .int .u64 (dgl (a) 6 : Nat), .int .u64 (dgl (a) 7 : Nat)]] w fun e w' => e = .returned (.tuple #[.agg #[.int .u64 (dgl (a * a) 0 : Nat), .int .u64 (dgl (a * a) 1 : Nat), .int .u64 (dgl (a * a) 2 : Nat), .int .u64 (dgl (a * a) 3 : Nat), .int .u64 (dgl (a * a) 4 : Nat), .int .u64 (dgl (a * a) 5 : Nat), .int .u64 (dgl (a * a) 6 : Nat), .int .u64 (dgl (a * a) 7 : Nat)], .bool (decide (a * a < QQ))]) ∧ Below w.heap.size w w' := by
  have HM := hide (fun w => prodMul_any a a ha ha w)
  generalize decide (a * a < QQ) = t at *
  have HST := hide (shrSt_start (dgl a) w)
  clear ha
  go_enter Try.func45, Try.ntmps45
  go_wp2_with fail
  refine (HM.out _).mono ?_
  rintro e w1 ⟨rfl, hb1⟩
  replace HST := hide (HST.out.below hb1)
  have hr := HST.out.lr.1
  have hrf := HST.out.fr
  have hl := HST.out.lr.2
  have HB := hide HST.out.bel
  clear hb1 HST
  go_wp2
  exact bodyPost_ret (v := .tuple #[.agg #[.int .u64 (dgl (a * a) 0 : Nat), .int .u64 (dgl (a * a) 1 : Nat), .int .u64 (dgl (a * a) 2 : Nat), .int .u64 (dgl (a * a) 3 : Nat), .int .u64 (dgl (a * a) 4 : Nat), .int .u64 (dgl (a * a) 5 : Nat), .int .u64 (dgl (a * a) 6 : Nat), .int .u64 (dgl (a * a) 7 : Nat)], .bool t]) (by simp [results, Try.results45, go_sem, hr, hl]) rfl ⟨rfl, below_set8 HB.out _ (by omega) _ _ _ _ _ _ _ _⟩

theorem ll_lt_qq {n : Nat} (h : n < 18446744073709551616) : n < QQ := Nat.lt_of_lt_of_le h (by unfold QQ; exact Nat.le_self_pow (by decide) _)

set_option maxHeartbeats 1000000 in
theorem prodSmall_any (a n : Nat) (ha : a < QQ) (hn : n < 18446744073709551616) (w : World) :
    Calls Try.prog 46 #[.agg #[.int .u64 (dgl (a) 0 : Nat), .int .u64 (dgl (a) 1 : Nat), .int .u64 (dgl (a) 2 : Nat), .int .u64 (dgl (a) 3 : Nat), .int .u64 (dgl (a) 4 : Nat), .int .u64 (dgl (a) 5 : Nat), .int .u64 (dgl (a) 6 : Nat), .int .u64 (dgl (a) 7 : Nat)], .int .u64 (n : Nat)] w fun e w' => e = .returned (.tuple #[.agg #[.int .u64 (dgl (n * a) 0 : Nat), .int .u64 (dgl (n * a) 1 : Nat), .int .u64 (dgl (n * a) 2 : Nat), .int .u64 (dgl (n * a) 3 : Nat), .int .u64 (dgl (n * a) 4 : Nat), .int .u64 (dgl (n * a) 5 : Nat), .int .u64 (dgl (n * a) 6 : Nat), .int .u64 (dgl (n * a) 7 : Nat)], .bool (decide (n * a < QQ))]) ∧ Below w.heap.size w w' := by
  have HM := hide (fun w => prodMul_any n a (ll_lt_qq hn) ha w)
  have HD : Hid (∀ i, i < 8 → dg [n] i = dgl n i) := fun i hi => (dig_one (β := 18446744073709551616) hn).2 i
  generalize decide (n * a < QQ) = t at *
  have HST := hide (shrSt_start (dgl a) w)
  clear ha hn
  go_enter Try.func46, Try.ntmps46
  go_upto_region 1 with fail
  refine wp_gen (fun W => ShrSt w.heap.size w (dgl a) (fun _ => 0) W) HST.out ?_
  rintro W1 h1
  clear HST
  refine wp_region_grow 7 [(6, .val (.int .u64 (n : Nat))), (7, .rd [n]), (8, .val (.agg #[.int .u64 (dgl (n) 0 : Nat), .int .u64 (dgl (n) 1 : Nat), .int .u64 (dgl (n) 2 : Nat), .int .u64 (dgl (n) 3 : Nat), .int .u64 (dgl (n) 4 : Nat), .int .u64 (dgl (n) 5 : Nat), .int .u64 (dgl (n) 6 : Nat), .int .u64 (dgl (n) 7 : Nat)])), (9, .val (.agg #[.int .u64 (dgl (a) 0 : Nat), .int .u64 (dgl (a) 1 : Nat), .int .u64 (dgl (a) 2 : Nat), .int .u64 (dgl (a) 3 : Nat), .int .u64 (dgl (a) 4 : Nat), .int .u64 (dgl (a) 5 : Nat), .int .u64 (dgl (a) 6 : Nat), .int .u64 (dgl (a) 7 : Nat)])), (10, .val (.tuple #[.agg #[.int .u64 (dgl (n * a) 0 : Nat), .int .u64 (dgl (n * a) 1 : Nat), .int .u64 (dgl (n * a) 2 : Nat), .int .u64 (dgl (n * a) 3 : Nat), .int .u64 (dgl (n * a) 4 : Nat), .int .u64 (dgl (n * a) 5 : Nat), .int .u64 (dgl (n * a) 6 : Nat), .int .u64 (dgl (n * a) 7 : Nat)], .bool t])), (11, .val (.agg #[.int .u64 (dgl (n * a) 0 : Nat), .int .u64 (dgl (n * a) 1 : Nat), .int .u64 (dgl (n * a) 2 : Nat), .int .u64 (dgl (n * a) 3 : Nat), .int .u64 (dgl (n * a) 4 : Nat), .int .u64 (dgl (n * a) 5 : Nat), .int .u64 (dgl (n * a) 6 : Nat), .int .u64 (dgl (n * a) 7 : Nat)])), (12, .val (.bool t))]
    (fun W => ShrSt w.heap.size w (dgl a) (fun _ => 0) W) mixedOk (by kernel_rfl) (by kernel_rfl) (h1.below (Below.refl _ _).drew) (fun W W' h hb => h.below hb) ?_ ?_
  · refine gSt (gStep_run rfl (gRun_move 1 6 (.inl rfl) rfl (by decide +kernel) (fun v w h => h))) ?_
    refine gSt (gStep_run rfl ?_) ?_
    · intro ρ W hC hc hf hL
      have e6 : ρ (.tmp 6) = .int .u64 (n : Nat) := hL 6 (by decide +kernel)
      simp [go_sem, hc, hf, e6]
      exact ⟨below_allocs _ _, Rd.lit (mk := mk64) W 22 [.int .u64 (n : Nat)] [n] rfl 1 (Nat.le_refl 1) (by decide)⟩
    refine gSt (gStep_run rfl ?_) ?_
    · intro ρ W hC hc hf hL
      have b7 := hL 7 (by decide +kernel)
      simp [go_sem, hc, hf]
      refine (wideOf_any [n] n _ _ b7 HD.out).mono ?_
      rintro e w' ⟨rfl, hb⟩
      exact ⟨_, rfl, by first | exact hb | (subst hb; exact Below.refl _ _), rfl⟩
    refine gSt (gStep_run rfl ?_) ?_
    · intro ρ W hC hc hf hL
      have e2 : ρ (.tmp 2) = .pointer (some ⟨w.heap.size, 0, none⟩) := hL 2 (by decide +kernel)
      have hl := hC.la.1
      simp [go_sem, hc, hf, e2, hl]
      exact ⟨Below.refl _ _, rfl⟩
    refine gSt (gStep_run rfl ?_) ?_
    · intro ρ W hC hc hf hL
      have e8 : ρ (.tmp 8) = .agg #[.int .u64 (dgl (n) 0 : Nat), .int .u64 (dgl (n) 1 : Nat), .int .u64 (dgl (n) 2 : Nat), .int .u64 (dgl (n) 3 : Nat), .int .u64 (dgl (n) 4 : Nat), .int .u64 (dgl (n) 5 : Nat), .int .u64 (dgl (n) 6 : Nat), .int .u64 (dgl (n) 7 : Nat)] := hL 8 (by decide +kernel)
      have e9 : ρ (.tmp 9) = .agg #[.int .u64 (dgl (a) 0 : Nat), .int .u64 (dgl (a) 1 : Nat), .int .u64 (dgl (a) 2 : Nat), .int .u64 (dgl (a) 3 : Nat), .int .u64 (dgl (a) 4 : Nat), .int .u64 (dgl (a) 5 : Nat), .int .u64 (dgl (a) 6 : Nat), .int .u64 (dgl (a) 7 : Nat)] := hL 9 (by decide +kernel)
      simp [go_sem, hc, hf, e8, e9]
      refine (HM.out _).mono ?_
      rintro e w' ⟨rfl, hb⟩
      exact ⟨_, rfl, by first | exact hb | (subst hb; exact Below.refl _ _), rfl⟩
    refine gSt (gStep_run rfl ?_) ?_
    · intro ρ W hC hc hf hL
      have e10 : ρ (.tmp 10) = .tuple #[.agg #[.int .u64 (dgl (n * a) 0 : Nat), .int .u64 (dgl (n * a) 1 : Nat), .int .u64 (dgl (n * a) 2 : Nat), .int .u64 (dgl (n * a) 3 : Nat), .int .u64 (dgl (n * a) 4 : Nat), .int .u64 (dgl (n * a) 5 : Nat), .int .u64 (dgl (n * a) 6 : Nat), .int .u64 (dgl (n * a) 7 : Nat)], .bool t] := hL 10 (by decide +kernel)
      simp [go_sem, hc, hf, e10]
      exact ⟨Below.refl _ _, rfl⟩
    refine gSt (gStep_run rfl ?_) ?_
    · intro ρ W hC hc hf hL
      have e10 : ρ (.tmp 10) = .tuple #[.agg #[.int .u64 (dgl (n * a) 0 : Nat), .int .u64 (dgl (n * a) 1 : Nat), .int .u64 (dgl (n * a) 2 : Nat), .int .u64 (dgl (n * a) 3 : Nat), .int .u64 (dgl (n * a) 4 : Nat), .int .u64 (dgl (n * a) 5 : Nat), .int .u64 (dgl (n * a) 6 : Nat), .int .u64 (dgl (n * a) 7 : Nat)], .bool t] := hL 10 (by decide +kernel)
      simp [go_sem, hc, hf, e10]
      exact ⟨Below.refl _ _, rfl⟩
    exact gSt0
  · intro W hC
    refine gFi 6 rfl ?_
    rintro _ rfl
    refine gFi 7 rfl ?_
    rintro u7 b7
    refine gFi 8 rfl ?_
    rintro _ rfl
    refine gFi 9 rfl ?_
    rintro _ rfl
    refine gFi 10 rfl ?_
    rintro _ rfl
    refine gFi 11 rfl ?_
    rintro _ rfl
    refine gFi 12 rfl ?_
    rintro _ rfl
    refine gFi0 ?_
    simp only [List.drop_succ_cons, List.drop_zero, Act.put, List.setIfInBounds_toArray, List.set_cons_succ, List.set_cons_zero]
    have hr := hC.lr.1
    have hrf := hC.fr
    have hl := hC.lr.2
    have HB := hide hC.bel
    clear hC h1 b7
    go_wp2
    exact bodyPost_ret (v := .tuple #[.agg #[.int .u64 (dgl (n * a) 0 : Nat), .int .u64 (dgl (n * a) 1 : Nat), .int .u64 (dgl (n * a) 2 : Nat), .int .u64 (dgl (n * a) 3 : Nat), .int .u64 (dgl (n * a) 4 : Nat), .int .u64 (dgl (n * a) 5 : Nat), .int .u64 (dgl (n * a) 6 : Nat), .int .u64 (dgl (n * a) 7 : Nat)], .bool t]) (by simp [results, Try.results46, go_sem, hr, hl]) rfl ⟨rfl, below_set8 HB.out _ (by omega) _ _ _ _ _ _ _ _⟩

/-- A slice of wides. -/
def RdW (w : World) (v : Value) (l : List Nat) : Prop :=
  ∃ ao cap, v = .slice ao l.length cap ∧ l.length ≤ cap ∧ cap ≤ maxLen ∧
    (l.length = 0 ∨ ∃ b off, ao = some ⟨b, off, none⟩ ∧ b < w.heap.size ∧ ∀ i j, i < l.length → j < 8 → w.cell? ⟨b, off + i * 8 + j, none⟩ = some (.int .u64 (dgl (dg l i) j : Nat)))
def sumN (l : List Nat) : Nat → Nat
  | 0 => 0
  | k + 1 => sumN l k + dg l k

structure SumLSt (w : World) (s : Nat) (wr : World) : Prop where
  lr : LiesF wr w.heap.size (fun _ => 0)
  fr : ∀ i, wr.frozen? ⟨w.heap.size, i, none⟩ = false
  ls : LiesF wr (w.heap.size + 1) (dgl s)
  fs : ∀ i, wr.frozen? ⟨w.heap.size + 1, i, none⟩ = false
  bel : Below w.heap.size w wr
theorem SumLSt.below {w : World} {s : Nat} {W W' : World} (h : SumLSt w s W) (hb : Below W.heap.size W W') : SumLSt w s W' :=
  ⟨h.lr.below hb, fun i => (hb.frozen (p := ⟨w.heap.size, i, none⟩) h.lr.2).trans (h.fr i), h.ls.below hb, fun i => (hb.frozen (p := ⟨w.heap.size + 1, i, none⟩) h.ls.2).trans (h.fs i), below_trans h.bel hb⟩
theorem SumLSt.set8 {w : World} {s t : Nat} {W : World} (h : SumLSt w s W) : SumLSt w t (((((((((W.setCell ⟨w.heap.size + 1, 0, none⟩ (.int .u64 (dgl t 0 : Nat))).setCell ⟨w.heap.size + 1, 1, none⟩ (.int .u64 (dgl t 1 : Nat))).setCell ⟨w.heap.size + 1, 2, none⟩ (.int .u64 (dgl t 2 : Nat))).setCell ⟨w.heap.size + 1, 3, none⟩ (.int .u64 (dgl t 3 : Nat))).setCell ⟨w.heap.size + 1, 4, none⟩ (.int .u64 (dgl t 4 : Nat))).setCell ⟨w.heap.size + 1, 5, none⟩ (.int .u64 (dgl t 5 : Nat))).setCell ⟨w.heap.size + 1, 6, none⟩ (.int .u64 (dgl t 6 : Nat))).setCell ⟨w.heap.size + 1, 7, none⟩ (.int .u64 (dgl t 7 : Nat)))) :=
  ⟨lies_ne h.lr (by omega), fun i => by simpa [go_sem] using h.fr i, set8_same W _ (dgl t) (dgl s) h.ls, fun i => by simpa [go_sem] using h.fs i, below_set8 h.bel _ (by omega) _ _ _ _ _ _ _ _⟩

set_option maxHeartbeats 2000000 in
theorem prodSum_any (l : List Nat) (v : Value) (w : World) (hr : RdW w v l) (hl : ∀ i, dg l i < QQ) :
    Calls Try.prog 54 #[v] w fun e w' => e = .returned (.agg #[.int .u64 (dgl (sumN l l.length) 0 : Nat), .int .u64 (dgl (sumN l l.length) 1 : Nat), .int .u64 (dgl (sumN l l.length) 2 : Nat), .int .u64 (dgl (sumN l l.length) 3 : Nat), .int .u64 (dgl (sumN l l.length) 4 : Nat), .int .u64 (dgl (sumN l l.length) 5 : Nat), .int .u64 (dgl (sumN l l.length) 6 : Nat), .int .u64 (dgl (sumN l l.length) 7 : Nat)]) ∧ Below w.heap.size w w' := by
  obtain ⟨ao, ca, rfl, hca, hma, hra⟩ := hr
  unfold maxLen at hma
  have HRA := hide hra
  have HL := hide hl
  clear hra hl
  have HADD := hide (fun (s x : Nat) (hx : x < QQ) w => wideAdd_any (s % QQ) x (Nat.mod_lt _ (by omega)) hx w)
  have HS0 : Hid (SumLSt w 0 ((w.alloc (.cells #[.int .u64 0, .int .u64 0, .int .u64 0, .int .u64 0, .int .u64 0, .int .u64 0, .int .u64 0, .int .u64 0] 24)).alloc (.cells #[.int .u64 0, .int .u64 0, .int .u64 0, .int .u64 0, .int .u64 0, .int .u64 0, .int .u64 0, .int .u64 0] 24))) := by
    have h1 := (liesF_new w (fun _ => 0) 24).alloc (.cells #[.int .u64 0, .int .u64 0, .int .u64 0, .int .u64 0, .int .u64 0, .int .u64 0, .int .u64 0, .int .u64 0] 24)
    have h2 := liesF_new (w.alloc (.cells #[.int .u64 0, .int .u64 0, .int .u64 0, .int .u64 0, .int .u64 0, .int .u64 0, .int .u64 0, .int .u64 0] 24)) (fun _ => 0) 24
    rw [World.size_alloc] at h2
    exact ⟨h1, fun i => by simp [go_sem], by rw [dgl_z]; exact h2, fun i => by simp [go_sem], below_trans (below_allocs _ _) (below_allocs _ _)⟩
  generalize hn : l.length = n at *
  have HN := hide hn
  clear hn
  go_enter Try.func54, Try.ntmps54
  go_wp2
  go_loopw [8] (fun i wr => ∃ k : Nat, k ≤ n ∧ i = .int .i64 k ∧ Hid (SumLSt w (sumN l k) wr))
    (fun i _ => n - (intOf i).toNat)
  case atStart => exact ⟨0, by omega, rfl, HS0.out⟩
  case round =>
    clear HS0
    obtain ⟨k, hk, rfl, hst⟩ := hrel
    by_cases hlt : k < n
    · have hj : (k : Int) < (n : Int) := by omega
      rcases unhide HRA with hc | ⟨b, off, rfl, hbl, hcell⟩
      · omega
      · have hck : ∀ j, j < 8 → wr.cell? ⟨b, off + k * 8 + j, none⟩ = some (.int .u64 (dgl (dg l k) j : Nat)) := fun j hj => (hst.out.bel.cell (p := ⟨b, off + k * 8 + j, none⟩) hbl).trans (hcell k j hlt hj)
        have hck0 := hck 0 (by decide)
        rw [Nat.add_zero] at hck0
        have hcs := hst.out.ls.1
        have HX := hide (HL.out k)
        have HSUM := hide (show sumN l (k + 1) = sumN l k + dg l k from rfl)
        clear hcell
        generalize dg l k = x at *
        generalize sumN l k = s at *
        go_upto_region 5 with fail
        refine wp_gen (fun W => SumLSt w s W ∧ LiesF W wr.heap.size (dgl x)) ⟨hst.out.below (below_allocs _ _), liesF_new _ _ _⟩ ?_
        rintro W5 ⟨h5, h5x⟩
        have hcs := h5.ls.1
        have hcx := h5x.1
        have HS5 := hide h5
        clear h5 h5x hck hck0 hst
        have hadd := fun w => HADD.out s x HX.out w
        rw [w8_mod (Nat.mod_mod s QQ), w8_mod (show (s % QQ + x) % QQ = (s + x) % QQ by rw [Nat.mod_add_mod])] at hadd
        have HA2 := hide hadd
        clear hadd
        generalize decide (QQ ≤ s % QQ + x) = o at *
        generalize wr.heap.size = p5 at *
        go_wp2_with fail
        refine (HA2.out _).mono ?_
        rintro e w6 ⟨rfl, hb6⟩
        replace HS5 := hide (HS5.out.below hb6)
        have hcs := HS5.out.ls.1
        have hfs := HS5.out.fs
        have hls := HS5.out.ls.2
        clear hb6 hcx
        go_wp2
        go_roundw
        case rel => exact ⟨k + 1, by omega, by go_num, by rw [HSUM.out]; exact HS5.out.set8⟩
        case measure => simp [intOf]; omega
    · have hk2 : k = n := by omega
      subst hk2
      have hcs := hst.out.ls.1
      have hr := hst.out.lr.1
      have hrf := hst.out.fr
      have hl := hst.out.lr.2
      have HB := hide hst.out.bel
      clear hst
      have hj : ¬ (k : Int) < (k : Int) := by omega
      go_wp2
      exact bodyPost_ret (v := .agg #[.int .u64 (dgl (sumN l k) 0 : Nat), .int .u64 (dgl (sumN l k) 1 : Nat), .int .u64 (dgl (sumN l k) 2 : Nat), .int .u64 (dgl (sumN l k) 3 : Nat), .int .u64 (dgl (sumN l k) 4 : Nat), .int .u64 (dgl (sumN l k) 5 : Nat), .int .u64 (dgl (sumN l k) 6 : Nat), .int .u64 (dgl (sumN l k) 7 : Nat)]) (by simp [results, Try.results54, go_sem, hr, hl]) rfl ⟨rfl, below_set8 HB.out _ (by omega) _ _ _ _ _ _ _ _⟩

end Go.Proofs.Ytenbomfoihajhaa
