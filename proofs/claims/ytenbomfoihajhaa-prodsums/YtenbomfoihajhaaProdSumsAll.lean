/- For all lists of wides, all wides and all bytes the law radicandlaw03.ProdSums returns true, and its arguments read afterwards as they read before. No condition. -/
import Derived.Test.YtenbomfoihajhaaBaseP
import Derived.Deep.Slices
import Derived.Test.YtenbomfoihajhaaRows
import Derived.WalkKit
import Derived.ProofKit
import Derived.OpenShut
import Derived.ShutString
import Derived.ChangeOld
import Derived.Below
/- The walk over radicandlaw03.ProdSums. -/
set_option linter.unusedVariables false
set_option linter.unusedSimpArgs false
set_option maxRecDepth 8000
namespace Go.Proofs.Ytenbomfoihajhaa
open Go.RowKit Plain

theorem RdW.below {w w' : World} {v : Value} {l : List Nat} (h : RdW w v l) (hb : Below w.heap.size w w') : RdW w' v l := by
  obtain ⟨ao, cap, rfl, hc, hm, h⟩ := h
  refine ⟨ao, cap, rfl, hc, hm, ?_⟩
  rcases h with h | ⟨b, off, rfl, hlt, hcell⟩
  · exact .inl h
  · exact .inr ⟨b, off, rfl, Nat.lt_of_lt_of_le hlt hb.size, fun i j hi hj => (hb.cell (p := ⟨b, off + i * 8 + j, none⟩) hlt).trans (hcell i j hi hj)⟩

structure SumsSt (w : World) (a : Nat) (fs : Nat → Nat) (p9 p12 ak : Nat) (W : World) : Prop where
  la : LiesF W w.heap.size (dgl a)
  l9 : LiesF W p9 fs
  l12 : LiesF W p12 (dgl ak)
  f12 : ∀ i, W.frozen? ⟨p12, i, none⟩ = false
  bel : Below w.heap.size w W
  o1 : w.heap.size < p9
  o2 : p9 < p12
theorem SumsSt.below {w : World} {a : Nat} {fs : Nat → Nat} {p9 p12 ak : Nat} {W W' : World} (h : SumsSt w a fs p9 p12 ak W) (hb : Below W.heap.size W W') : SumsSt w a fs p9 p12 ak W' :=
  ⟨h.la.below hb, h.l9.below hb, h.l12.below hb, fun i => (hb.frozen (p := ⟨p12, i, none⟩) h.l12.2).trans (h.f12 i), below_trans h.bel hb, h.o1, h.o2⟩
theorem SumsSt.set12 {w : World} {a : Nat} {fs : Nat → Nat} {p9 p12 ak x : Nat} {W : World} (h : SumsSt w a fs p9 p12 ak W) : SumsSt w a fs p9 p12 x ((((((((W.setCell ⟨p12, 0, none⟩ (.int .u64 (dgl x 0 : Nat))).setCell ⟨p12, 1, none⟩ (.int .u64 (dgl x 1 : Nat))).setCell ⟨p12, 2, none⟩ (.int .u64 (dgl x 2 : Nat))).setCell ⟨p12, 3, none⟩ (.int .u64 (dgl x 3 : Nat))).setCell ⟨p12, 4, none⟩ (.int .u64 (dgl x 4 : Nat))).setCell ⟨p12, 5, none⟩ (.int .u64 (dgl x 5 : Nat))).setCell ⟨p12, 6, none⟩ (.int .u64 (dgl x 6 : Nat))).setCell ⟨p12, 7, none⟩ (.int .u64 (dgl x 7 : Nat))) := by
  have h1 := h.o1
  have h2 := h.o2
  exact ⟨lies_ne h.la (by omega), lies_ne h.l9 (by omega), set8_same W p12 (dgl x) (dgl ak) h.l12, fun i => by simpa [go_sem] using h.f12 i, below_set8 h.bel _ (by omega) _ _ _ _ _ _ _ _, h.o1, h.o2⟩


theorem prodSums_long (l : List Nat) (v : Value) (a x : Nat) (w : World) (hr : RdW w v l) (hlen : 20 < l.length) :
    Calls Try.prog 9 #[v, .agg #[.int .u64 (dgl (a) 0 : Nat), .int .u64 (dgl (a) 1 : Nat), .int .u64 (dgl (a) 2 : Nat), .int .u64 (dgl (a) 3 : Nat), .int .u64 (dgl (a) 4 : Nat), .int .u64 (dgl (a) 5 : Nat), .int .u64 (dgl (a) 6 : Nat), .int .u64 (dgl (a) 7 : Nat)], .int .u8 (x : Nat)] w fun e w' => e = .returned (.bool true) ∧ Below w.heap.size w w' := by
  obtain ⟨ao, ca, rfl, hca, hma, -⟩ := hr
  have hln : (20 : Int) < (l.length : Int) := by omega
  go_enter Try.func9, Try.ntmps9
  go_wp2_with fail
  refine (awake3_any _).mono ?_
  rintro e w1 ⟨rfl, hb1⟩
  go_wp2
  go_ret
  exact ⟨rfl, below_alloc_then hb1⟩

theorem one_array : (#[.int .u64 1, .int .u64 0, .int .u64 0, .int .u64 0, .int .u64 0, .int .u64 0, .int .u64 0, .int .u64 0] : Array Value) = #[.int .u64 (dgl (1) 0 : Nat), .int .u64 (dgl (1) 1 : Nat), .int .u64 (dgl (1) 2 : Nat), .int .u64 (dgl (1) 3 : Nat), .int .u64 (dgl (1) 4 : Nat), .int .u64 (dgl (1) 5 : Nat), .int .u64 (dgl (1) 6 : Nat), .int .u64 (dgl (1) 7 : Nat)] := by
  have h : ∀ i, i < 8 → (fun i => if i = 0 then 1 else 0) i = dgl 1 i := by decide
  exact w8_congr (x := fun i => if i = 0 then 1 else 0) (y := dgl 1) h

theorem nlt_le' (x y : Nat) : decide (x < y) = !decide (y ≤ x) := by
  rw [Bool.eq_iff_iff]; simp

theorem fits_up (a q : Nat) (ha : a < QQ) : (decide (a ^ q < QQ) && !decide (QQ ≤ a ^ q % QQ * a)) = decide (a ^ q * a < QQ) := by
  have h := fits_mul (a ^ q) a (fun h => absurd h (by omega)) (fun h => by
    have := (pow_pair a q 1 (Nat.le_refl _)).2 h
    rw [Nat.pow_one] at this
    exact this)
  rw [decide_eq_true ha, Bool.and_true, Nat.mod_eq_of_lt ha, nlt_le' (a ^ q % QQ * a) QQ] at h
  exact h

set_option maxHeartbeats 8000000 in
theorem prodSums_first (l : List Nat) (ao : Option Addr) (ca nl a x m am : Nat) (fs : Nat → Nat) (F o1 : Bool) (w : World) (HN : Hid (nl = l.length)) (hnl : nl ≤ 20) (hca : nl ≤ ca) (hma : ca ≤ 9223372036854775807)
    (HRA : Hid (nl = 0 ∨ ∃ b off, ao = some ⟨b, off, none⟩ ∧ b < w.heap.size ∧ ∀ i j, i < nl → j < 8 → w.cell? ⟨b, off + i * 8 + j, none⟩ = some (.int .u64 (dgl (dg l i) j : Nat))))
    (HL : Hid (∀ i, dg l i < QQ)) (hx : x < 256) (HM : Hid (m = x % 20)) (hm20 : m < 20) (HA : Hid (a < QQ)) (HAM : Hid (a ^ m = am)) (HF : Hid (decide (am < QQ) = F))
    (HWS : Hid (∀ v w, BigV w v (sumN l nl) 60 → Calls Try.prog 15 #[v] w fun e w' => e = .returned (.tuple #[.agg #[.int .u64 (fs 0 : Nat), .int .u64 (fs 1 : Nat), .int .u64 (fs 2 : Nat), .int .u64 (fs 3 : Nat), .int .u64 (fs 4 : Nat), .int .u64 (fs 5 : Nat), .int .u64 (fs 6 : Nat), .int .u64 (fs 7 : Nat)], .bool o1]) ∧ Below w.heap.size w w'))
    (HSUM : Hid (∀ W, Below w.heap.size w W → Calls Try.prog 54 #[.slice ao nl ca] W fun e w' => e = .returned (.agg #[.int .u64 (fs 0 : Nat), .int .u64 (fs 1 : Nat), .int .u64 (fs 2 : Nat), .int .u64 (fs 3 : Nat), .int .u64 (fs 4 : Nat), .int .u64 (fs 5 : Nat), .int .u64 (fs 6 : Nat), .int .u64 (fs 7 : Nat)]) ∧ Below W.heap.size W w'))
    (HPM : Hid (∀ W, Calls Try.prog 53 #[.agg #[.int .u64 (dgl (a) 0 : Nat), .int .u64 (dgl (a) 1 : Nat), .int .u64 (dgl (a) 2 : Nat), .int .u64 (dgl (a) 3 : Nat), .int .u64 (dgl (a) 4 : Nat), .int .u64 (dgl (a) 5 : Nat), .int .u64 (dgl (a) 6 : Nat), .int .u64 (dgl (a) 7 : Nat)], .int .i64 (m : Nat)] W fun e w' => e = .returned (.tuple #[.agg #[.int .u64 (dgl (am) 0 : Nat), .int .u64 (dgl (am) 1 : Nat), .int .u64 (dgl (am) 2 : Nat), .int .u64 (dgl (am) 3 : Nat), .int .u64 (dgl (am) 4 : Nat), .int .u64 (dgl (am) 5 : Nat), .int .u64 (dgl (am) 6 : Nat), .int .u64 (dgl (am) 7 : Nat)], .bool F]) ∧ Below W.heap.size W w'))
    (HPZ : Hid (∀ W, Calls Try.prog 53 #[.agg #[.int .u64 (dgl (a) 0 : Nat), .int .u64 (dgl (a) 1 : Nat), .int .u64 (dgl (a) 2 : Nat), .int .u64 (dgl (a) 3 : Nat), .int .u64 (dgl (a) 4 : Nat), .int .u64 (dgl (a) 5 : Nat), .int .u64 (dgl (a) 6 : Nat), .int .u64 (dgl (a) 7 : Nat)], .int .i64 (-1)] W fun e w' => e = .returned (.tuple #[.agg #[.int .u64 (dgl (1) 0 : Nat), .int .u64 (dgl (1) 1 : Nat), .int .u64 (dgl (1) 2 : Nat), .int .u64 (dgl (1) 3 : Nat), .int .u64 (dgl (1) 4 : Nat), .int .u64 (dgl (1) 5 : Nat), .int .u64 (dgl (1) 6 : Nat), .int .u64 (dgl (1) 7 : Nat)], .bool true]) ∧ Below W.heap.size W w')) :
    Calls Try.prog 9 #[.slice ao nl ca, .agg #[.int .u64 (dgl (a) 0 : Nat), .int .u64 (dgl (a) 1 : Nat), .int .u64 (dgl (a) 2 : Nat), .int .u64 (dgl (a) 3 : Nat), .int .u64 (dgl (a) 4 : Nat), .int .u64 (dgl (a) 5 : Nat), .int .u64 (dgl (a) 6 : Nat), .int .u64 (dgl (a) 7 : Nat)], .int .u8 (x : Nat)] w fun e w' => e = .returned (.bool true) ∧ Below w.heap.size w w' := by
  have HBA := hide (fun w => refBig_any a HA.out w)
  have hln : ¬ (20 : Int) < (nl : Int) := by omega
  have HS0 := hide (show LiesF (w.alloc (.cells #[.int .u64 (dgl (a) 0 : Nat), .int .u64 (dgl (a) 1 : Nat), .int .u64 (dgl (a) 2 : Nat), .int .u64 (dgl (a) 3 : Nat), .int .u64 (dgl (a) 4 : Nat), .int .u64 (dgl (a) 5 : Nat), .int .u64 (dgl (a) 6 : Nat), .int .u64 (dgl (a) 7 : Nat)] 24)) w.heap.size (dgl a) ∧ Below w.heap.size w (w.alloc (.cells #[.int .u64 (dgl (a) 0 : Nat), .int .u64 (dgl (a) 1 : Nat), .int .u64 (dgl (a) 2 : Nat), .int .u64 (dgl (a) 3 : Nat), .int .u64 (dgl (a) 4 : Nat), .int .u64 (dgl (a) 5 : Nat), .int .u64 (dgl (a) 6 : Nat), .int .u64 (dgl (a) 7 : Nat)] 24)) from ⟨liesF_new _ _ _, below_allocs _ _⟩)
  have hone : ∀ w, (Op.equalIn 10000 24 (.agg #[.int .u64 (dgl (1) 0 : Nat), .int .u64 (dgl (1) 1 : Nat), .int .u64 (dgl (1) 2 : Nat), .int .u64 (dgl (1) 3 : Nat), .int .u64 (dgl (1) 4 : Nat), .int .u64 (dgl (1) 5 : Nat), .int .u64 (dgl (1) 6 : Nat), .int .u64 (dgl (1) 7 : Nat)]) (.agg #[.int .u64 1, .int .u64 0, .int .u64 0, .int .u64 0, .int .u64 0, .int .u64 0, .int .u64 0, .int .u64 0])).run Try.prog w = .ok true w := fun w => by rw [one_array]; exact wide_same 1 w
  go_enter Try.func9, Try.ntmps9
  go_upto_region 1 with fail
  refine wp_gen (fun W => LiesF W w.heap.size (dgl a) ∧ Below w.heap.size w W) HS0.out ?_
  rintro W0 h0
  clear HS0
  go_wp2
  go_loopw [7, 8] (fun v i wr => ∃ k : Nat, k ≤ nl ∧ i = .int .i64 k ∧ BigV wr v (sumN l k) (40 + k) ∧ Hid (LiesF wr w.heap.size (dgl a) ∧ Below w.heap.size w wr))
    (fun _ i _ => nl - (intOf i).toNat)
  case atStart => exact ⟨0, by omega, rfl, (mk0_big _ _).mono (by omega), ⟨h0.1.alloc _, below_trans h0.2 (below_allocs _ _)⟩⟩
  case round =>
    clear h0
    obtain ⟨k, hk, rfl, hbig, hst⟩ := hrel
    by_cases hlt : k < nl
    · have hj : (k : Int) < (nl : Int) := by omega
      rcases unhide HRA with hc | ⟨b, off, rfl, hbl, hcell⟩
      · omega
      · have hck : ∀ j, j < 8 → wr.cell? ⟨b, off + k * 8 + j, none⟩ = some (.int .u64 (dgl (dg l k) j : Nat)) := fun j hj => (hst.out.2.cell (p := ⟨b, off + k * 8 + j, none⟩) hbl).trans (hcell k j hlt hj)
        have hck0 := hck 0 (by decide)
        rw [Nat.add_zero] at hck0
        have HBX := hide (fun w => refBig_any (dg l k) (HL.out k) w)
        have HSN := hide (show sumN l (k + 1) = sumN l k + dg l k from rfl)
        clear hcell
        generalize dg l k = y at *
        generalize sumN l k = s at *
        have HBG := hide hbig
        clear hbig
        go_wp2_with fail
        refine (HBX.out _).mono ?_
        rintro e w1 ⟨v1, rfl, hv1, hb1⟩
        have HS1 := hide (show LiesF w1 w.heap.size (dgl a) ∧ Below w.heap.size w w1 from ⟨hst.out.1.below hb1, below_trans hst.out.2 hb1⟩)
        replace HBG := hide (HBG.out.below hb1)
        clear hb1 hst hck hck0
        go_wp2_with fail
        refine (refAdd_any s y (40 + k) 40 _ _ _ HBG.out hv1 (by omega) (by omega)).mono ?_
        rintro e w2 ⟨v2, rfl, hv2, hb2⟩
        have HS2 := hide (show LiesF w2 w.heap.size (dgl a) ∧ Below w.heap.size w w2 from ⟨HS1.out.1.below hb2, below_trans HS1.out.2 hb2⟩)
        clear hb2 hv1 HBG HS1
        go_wp2
        go_roundw
        case rel => exact ⟨k + 1, by omega, by go_num, by rw [HSN.out]; exact hv2.mono (by omega), HS2⟩
        case measure => simp [intOf]; omega
    · have hk2 : k = nl := by omega
      subst hk2
      have hj : ¬ (k : Int) < (k : Int) := by omega
      have HBG := hide (hbig.mono (show 40 + k ≤ 60 by omega))
      clear hbig
      go_wp2_with fail
      refine (HWS.out _ _ HBG.out).mono ?_
      rintro e w1 ⟨rfl, hb1⟩
      have HS1 := hide (show LiesF w1 w.heap.size (dgl a) ∧ Below w.heap.size w w1 from ⟨hst.out.1.below hb1, below_trans hst.out.2 hb1⟩)
      clear hb1 hst HBG
      go_upto_region 9 with fail
      refine wp_gen (fun W => LiesF W w.heap.size (dgl a) ∧ Below w.heap.size w W ∧ LiesF W w1.heap.size fs) ⟨HS1.out.1.alloc _, below_trans HS1.out.2 (below_allocs _ _), liesF_new _ _ _⟩ ?_
      rintro W1 ⟨h1, h2, h3⟩
      have hp9 : w.heap.size < w1.heap.size := HS1.out.1.2
      generalize w1.heap.size = p9 at *
      clear HS1
      go_wp2_with fail
      refine (small_any 1 (by decide) _).mono ?_
      rintro e w2 ⟨v2, rfl, hv2, hb2⟩
      replace h1 := h1.below hb2
      replace h2 := below_trans h2 hb2
      replace h3 := h3.below hb2
      clear hb2 hv2
      go_upto_region 11 with fail
      refine wp_gen (fun W => SumsSt w a fs p9 w2.heap.size (a ^ 0) W) ?_ ?_
      · rw [one_array, Nat.pow_zero]
        exact ⟨h1.alloc _, h3.alloc _, liesF_new _ _ _, fun i => by simp [go_sem], below_trans h2 (below_allocs _ _), hp9, h3.2⟩
      rintro W3 hst3
      generalize w2.heap.size = p12 at *
      clear h1 h2 h3
      have HT0 : Hid (decide (a ^ 0 < QQ) = true) := by show decide (a ^ 0 < QQ) = true; rw [Nat.pow_zero]; exact decide_eq_true one_lt_qq
      have hmi : (x : Int) % 20 = (m : Int) := by have := HM.out; omega
      go_wp2
      go_loopw [13, 14] (fun f i wr => ∃ k : Nat, k ≤ m ∧ i = .int .i64 k ∧ f = .bool (decide (a ^ k < QQ)) ∧ Hid (SumsSt w a fs p9 p12 (a ^ k) wr))
        (fun _ i _ => m - (intOf i).toNat)
      case atStart => exact ⟨0, by omega, rfl, by rw [HT0.out], hst3⟩
      case round =>
        clear hst3 HT0
        obtain ⟨q, hq, rfl, rfl, hst⟩ := hrel
        by_cases hlt : q < m
        · have hqm : (q : Int) < (m : Int) := by omega
          have HAK : Hid (a ^ (q + 1) = a ^ q * a) := Nat.pow_succ a q
          have hq0 : 0 < QQ := by have := HA.out; omega
          have hbk := fun w => refBig_any (a ^ q % QQ) (Nat.mod_lt _ hq0) w
          rw [w8_mod (Nat.mod_mod (a ^ q) QQ)] at hbk
          have HBAK := hide hbk
          have hwk := fun v w h => refWide_any (a ^ q % QQ * a) 80 v w h
          rw [w8_mod (show (a ^ q % QQ * a) % QQ = (a ^ q * a) % QQ by rw [Nat.mod_mul_mod])] at hwk
          have HWAK := hide hwk
          have HFIT := hide (fits_up a q HA.out)
          clear hbk hwk hq0
          generalize a ^ q = ak at *
          generalize decide (ak < QQ) = Fk at *
          generalize decide (QQ ≤ ak % QQ * a) = ov at *
          go_upto_region 14 with fail
          refine wp_region_grow 5 [(53, .val (.agg #[.int .u64 (dgl (ak) 0 : Nat), .int .u64 (dgl (ak) 1 : Nat), .int .u64 (dgl (ak) 2 : Nat), .int .u64 (dgl (ak) 3 : Nat), .int .u64 (dgl (ak) 4 : Nat), .int .u64 (dgl (ak) 5 : Nat), .int .u64 (dgl (ak) 6 : Nat), .int .u64 (dgl (ak) 7 : Nat)])), (54, .big (ak % QQ) 40), (55, .val (.agg #[.int .u64 (dgl (a) 0 : Nat), .int .u64 (dgl (a) 1 : Nat), .int .u64 (dgl (a) 2 : Nat), .int .u64 (dgl (a) 3 : Nat), .int .u64 (dgl (a) 4 : Nat), .int .u64 (dgl (a) 5 : Nat), .int .u64 (dgl (a) 6 : Nat), .int .u64 (dgl (a) 7 : Nat)])), (56, .big a 40), (57, .big (ak % QQ * a) 80)]
            (fun W => SumsSt w a fs p9 p12 ak W) mixedOk (by kernel_rfl) (by kernel_rfl) (hst.out.below (Below.refl _ _).drew) (fun W W' h hb => h.below hb) ?_ ?_
          · refine gSt (gStep_run rfl ?_) ?_
            · intro ρ W hC hc hf hL
              have e12 : ρ (.tmp 12) = .pointer (some ⟨p12, 0, none⟩) := hL 12 (by decide +kernel)
              have hl := hC.l12.1
              simp [go_sem, hc, hf, e12, hl]
              exact ⟨Below.refl _ _, rfl⟩
            refine gSt (gStep_run rfl ?_) ?_
            · intro ρ W hC hc hf hL
              have e53 : ρ (.tmp 53) = .agg #[.int .u64 (dgl (ak) 0 : Nat), .int .u64 (dgl (ak) 1 : Nat), .int .u64 (dgl (ak) 2 : Nat), .int .u64 (dgl (ak) 3 : Nat), .int .u64 (dgl (ak) 4 : Nat), .int .u64 (dgl (ak) 5 : Nat), .int .u64 (dgl (ak) 6 : Nat), .int .u64 (dgl (ak) 7 : Nat)] := hL 53 (by decide +kernel)
              simp [go_sem, hc, hf, e53]
              refine (HBAK.out _).mono ?_
              rintro e w' ⟨v, rfl, hv, hb⟩
              exact ⟨_, rfl, hb, hv⟩
            refine gSt (gStep_run rfl ?_) ?_
            · intro ρ W hC hc hf hL
              have e4 : ρ (.tmp 4) = .pointer (some ⟨w.heap.size, 0, none⟩) := hL 4 (by decide +kernel)
              have hl := hC.la.1
              simp [go_sem, hc, hf, e4, hl]
              exact ⟨Below.refl _ _, rfl⟩
            refine gSt (gStep_run rfl ?_) ?_
            · intro ρ W hC hc hf hL
              have e55 : ρ (.tmp 55) = .agg #[.int .u64 (dgl (a) 0 : Nat), .int .u64 (dgl (a) 1 : Nat), .int .u64 (dgl (a) 2 : Nat), .int .u64 (dgl (a) 3 : Nat), .int .u64 (dgl (a) 4 : Nat), .int .u64 (dgl (a) 5 : Nat), .int .u64 (dgl (a) 6 : Nat), .int .u64 (dgl (a) 7 : Nat)] := hL 55 (by decide +kernel)
              simp [go_sem, hc, hf, e55]
              refine (HBA.out _).mono ?_
              rintro e w' ⟨v, rfl, hv, hb⟩
              exact ⟨_, rfl, hb, hv⟩
            refine gSt (gStep_run rfl ?_) ?_
            · intro ρ W hC hc hf hL
              have b54 : BigV W (ρ (.tmp 54)) ((ak % QQ)) (40) := hL 54 (by decide +kernel)
              have b56 : BigV W (ρ (.tmp 56)) (a) (40) := hL 56 (by decide +kernel)
              simp [go_sem, hc, hf]
              refine (refMul_any (ak % QQ) a 40 40 _ _ _ b54 b56 (by omega) (by omega)).mono ?_
              rintro e w' ⟨v, rfl, hv, hb⟩
              exact ⟨_, rfl, hb, hv⟩
            exact gSt0
          · intro W hC
            refine gFi 53 rfl ?_
            rintro _ rfl
            refine gFi 54 rfl ?_
            rintro u54 b54
            refine gFi 55 rfl ?_
            rintro _ rfl
            refine gFi 56 rfl ?_
            rintro u56 b56
            refine gFi 57 rfl ?_
            rintro u57 b57
            refine gFi0 ?_
            simp only [List.drop_succ_cons, List.drop_zero, Act.put, List.setIfInBounds_toArray, List.set_cons_succ, List.set_cons_zero]
            clear b54 b56
            have HS1 := hide hC
            clear hC hst
            go_wp2_with fail
            refine (HWAK.out _ _ b57).mono ?_
            rintro e w2 ⟨rfl, hb2⟩
            replace HS1 := hide (HS1.out.below hb2)
            clear b57 hb2
            go_upto_region 16 with fail
            refine wp_gen (fun W => SumsSt w a fs p9 p12 ak W ∧ LiesF W w2.heap.size (dgl (ak * a))) ⟨HS1.out.below (below_allocs _ _), liesF_new _ _ _⟩ ?_
            rintro W2 ⟨h1, h2⟩
            generalize w2.heap.size = p15 at *
            have hc15 := h2.1
            have hc12 := h1.l12.1
            have hf12 := h1.f12
            have hl12 := h1.l12.2
            have HS2 := hide h1
            clear h1 h2 HS1
            cases Fk
            all_goals
              go_wp2
              go_roundw
              case rel => exact ⟨q + 1, by omega, by go_num, by rw [HAK.out, ← HFIT.out]; simp, by rw [HAK.out]; exact HS2.out.set12⟩
              case measure => simp [intOf]; omega
        · have hqe : q = m := by omega
          subst hqe
          have hqm : ¬ (q : Int) < (q : Int) := by omega
          rw [HAM.out] at hst
          rw [HAM.out, HF.out]
          have hca := hst.out.la.1
          have HS := hst
          clear hst
          go_wp2_with fail
          refine (HPM.out _).mono ?_
          rintro e w4 ⟨rfl, hb4⟩
          replace HS := hide (HS.out.below hb4)
          clear hb4 hca
          go_upto_region 18 with fail
          refine wp_gen (fun W => SumsSt w a fs p9 p12 am W ∧ LiesF W w4.heap.size (dgl am)) ⟨HS.out.below (below_allocs _ _), liesF_new _ _ _⟩ ?_
          rintro W4 ⟨h1, h2⟩
          generalize w4.heap.size = p17 at *
          replace HS := hide h1
          have H17 := hide h2
          have hca := h1.la.1
          clear h1 h2
          go_wp2_with fail
          refine (HPZ.out _).mono ?_
          rintro e w5 ⟨rfl, hb5⟩
          replace HS := hide (HS.out.below hb5)
          replace H17 := hide (H17.out.below hb5)
          clear hb5 hca
          go_upto_region 19 with fail
          refine wp_gen (fun W => SumsSt w a fs p9 p12 am W ∧ LiesF W p17 (dgl am) ∧ LiesF W w5.heap.size (dgl 1)) ⟨HS.out.below (below_allocs _ _), H17.out.alloc _, liesF_new _ _ _⟩ ?_
          rintro W5 ⟨h1, h2, h3⟩
          generalize w5.heap.size = p19 at *
          replace HS := hide h1
          replace H17 := hide h2
          have H19 := hide h3
          clear h1 h2 h3
          refine wp_region_grow 26 [(82, .val (.slice ao k ca)), (83, .val (.agg #[.int .u64 (fs 0 : Nat), .int .u64 (fs 1 : Nat), .int .u64 (fs 2 : Nat), .int .u64 (fs 3 : Nat), .int .u64 (fs 4 : Nat), .int .u64 (fs 5 : Nat), .int .u64 (fs 6 : Nat), .int .u64 (fs 7 : Nat)])), (84, .val (.agg #[.int .u64 (fs 0 : Nat), .int .u64 (fs 1 : Nat), .int .u64 (fs 2 : Nat), .int .u64 (fs 3 : Nat), .int .u64 (fs 4 : Nat), .int .u64 (fs 5 : Nat), .int .u64 (fs 6 : Nat), .int .u64 (fs 7 : Nat)])), (85, .val (.bool true)), (86, .val (.bool true)), (87, .val (.agg #[.int .u64 (dgl (am) 0 : Nat), .int .u64 (dgl (am) 1 : Nat), .int .u64 (dgl (am) 2 : Nat), .int .u64 (dgl (am) 3 : Nat), .int .u64 (dgl (am) 4 : Nat), .int .u64 (dgl (am) 5 : Nat), .int .u64 (dgl (am) 6 : Nat), .int .u64 (dgl (am) 7 : Nat)])), (88, .val (.agg #[.int .u64 (dgl (am) 0 : Nat), .int .u64 (dgl (am) 1 : Nat), .int .u64 (dgl (am) 2 : Nat), .int .u64 (dgl (am) 3 : Nat), .int .u64 (dgl (am) 4 : Nat), .int .u64 (dgl (am) 5 : Nat), .int .u64 (dgl (am) 6 : Nat), .int .u64 (dgl (am) 7 : Nat)])), (89, .val (.bool true)), (90, .val (.bool true)), (91, .val (.bool true)), (92, .val (.bool F)), (93, .val (.bool F)), (94, .val (.bool true)), (95, .val (.bool true)), (96, .val (.bool true)), (97, .val (.agg #[.int .u64 (dgl (1) 0 : Nat), .int .u64 (dgl (1) 1 : Nat), .int .u64 (dgl (1) 2 : Nat), .int .u64 (dgl (1) 3 : Nat), .int .u64 (dgl (1) 4 : Nat), .int .u64 (dgl (1) 5 : Nat), .int .u64 (dgl (1) 6 : Nat), .int .u64 (dgl (1) 7 : Nat)])), (98, .val (.agg #[.int .u64 1, .int .u64 0, .int .u64 0, .int .u64 0, .int .u64 0, .int .u64 0, .int .u64 0, .int .u64 0])), (99, .val (.bool true)), (100, .val (.bool true)), (101, .val (.bool true)), (102, .val (.bool true)), (103, .val (.bool true)), (104, .val (.bool true)), (105, .val (.bool true)), (106, .val (.bool true)), (6, .val (.bool true))]
            (fun W => SumsSt w a fs p9 p12 am W ∧ LiesF W p17 (dgl am) ∧ LiesF W p19 (dgl 1)) mixedOk (by kernel_rfl) (by kernel_rfl) (⟨HS.out.below (Below.refl _ _).drew, H17.out, H19.out⟩) (fun W W' h hb => ⟨h.1.below hb, h.2.1.below hb, h.2.2.below hb⟩) ?_ ?_
          · refine gSt (gStep_run rfl (gRun_move 0 82 (.inl rfl) rfl (by decide +kernel) (fun v w h => h))) ?_
            refine gSt (gStep_run rfl ?_) ?_
            · intro ρ W hC hc hf hL
              have e82 : ρ (.tmp 82) = .slice ao k ca := hL 82 (by decide +kernel)
              simp [go_sem, hc, hf, e82]
              refine (HSUM.out _ hC.1.bel).mono ?_
              rintro e w' ⟨rfl, hb⟩
              exact ⟨_, rfl, by first | exact hb | (subst hb; exact Below.refl _ _), rfl⟩
            refine gSt (gStep_run rfl ?_) ?_
            · intro ρ W hC hc hf hL
              have e9 : ρ (.tmp 9) = .pointer (some ⟨p9, 0, none⟩) := hL 9 (by decide +kernel)
              have hl := hC.1.l9.1
              simp [go_sem, hc, hf, e9, hl]
              exact ⟨Below.refl _ _, rfl⟩
            refine gSt (gStep_run rfl ?_) ?_
            · intro ρ W hC hc hf hL
              have e83 : ρ (.tmp 83) = .agg #[.int .u64 (fs 0 : Nat), .int .u64 (fs 1 : Nat), .int .u64 (fs 2 : Nat), .int .u64 (fs 3 : Nat), .int .u64 (fs 4 : Nat), .int .u64 (fs 5 : Nat), .int .u64 (fs 6 : Nat), .int .u64 (fs 7 : Nat)] := hL 83 (by decide +kernel)
              have e84 : ρ (.tmp 84) = .agg #[.int .u64 (fs 0 : Nat), .int .u64 (fs 1 : Nat), .int .u64 (fs 2 : Nat), .int .u64 (fs 3 : Nat), .int .u64 (fs 4 : Nat), .int .u64 (fs 5 : Nat), .int .u64 (fs 6 : Nat), .int .u64 (fs 7 : Nat)] := hL 84 (by decide +kernel)
              simp [go_sem, hc, hf, e83, e84, wide_sameF]
              exact ⟨Below.refl _ _, rfl⟩
            refine gSt (gStep_run rfl (gRun_move 85 86 (.inl rfl) rfl (by decide +kernel) (fun v w h => h))) ?_
            refine gSt (gStep_on 4 86 true rfl rfl (by decide +kernel) (fun v w h => h) ?_) ?_
            · intro ρ W hC hc hf hL
              have e17 : ρ (.tmp 17) = .pointer (some ⟨p17, 0, none⟩) := hL 17 (by decide +kernel)
              have hl := hC.2.1.1
              simp [go_sem, hc, hf, e17, hl]
              exact ⟨Below.refl _ _, rfl⟩
            refine gSt (gStep_on 4 86 true rfl rfl (by decide +kernel) (fun v w h => h) ?_) ?_
            · intro ρ W hC hc hf hL
              have e12 : ρ (.tmp 12) = .pointer (some ⟨p12, 0, none⟩) := hL 12 (by decide +kernel)
              have hl := hC.1.l12.1
              simp [go_sem, hc, hf, e12, hl]
              exact ⟨Below.refl _ _, rfl⟩
            refine gSt (gStep_on 4 86 true rfl rfl (by decide +kernel) (fun v w h => h) ?_) ?_
            · intro ρ W hC hc hf hL
              have e87 : ρ (.tmp 87) = .agg #[.int .u64 (dgl (am) 0 : Nat), .int .u64 (dgl (am) 1 : Nat), .int .u64 (dgl (am) 2 : Nat), .int .u64 (dgl (am) 3 : Nat), .int .u64 (dgl (am) 4 : Nat), .int .u64 (dgl (am) 5 : Nat), .int .u64 (dgl (am) 6 : Nat), .int .u64 (dgl (am) 7 : Nat)] := hL 87 (by decide +kernel)
              have e88 : ρ (.tmp 88) = .agg #[.int .u64 (dgl (am) 0 : Nat), .int .u64 (dgl (am) 1 : Nat), .int .u64 (dgl (am) 2 : Nat), .int .u64 (dgl (am) 3 : Nat), .int .u64 (dgl (am) 4 : Nat), .int .u64 (dgl (am) 5 : Nat), .int .u64 (dgl (am) 6 : Nat), .int .u64 (dgl (am) 7 : Nat)] := hL 88 (by decide +kernel)
              simp [go_sem, hc, hf, e87, e88, wide_sameF]
              exact ⟨Below.refl _ _, rfl⟩
            refine gSt (gStep_run rfl (gRun_pickT 86 89 90 _ rfl rfl (by decide +kernel) (by decide +kernel) (fun v w h => h) (fun v w h => h))) ?_
            refine gSt (gStep_run rfl (gRun_move 90 91 (.inl rfl) rfl (by decide +kernel) (fun v w h => h))) ?_
            refine gSt (gStep_on 9 91 true rfl rfl (by decide +kernel) (fun v w h => h) (gRun_move 18 92 (.inl rfl) rfl (by decide +kernel) (fun v w h => h))) ?_
            refine gSt (gStep_on 9 91 true rfl rfl (by decide +kernel) (fun v w h => h) (gRun_move 13 93 (.inl rfl) rfl (by decide +kernel) (fun v w h => h))) ?_
            refine gSt (gStep_on 9 91 true rfl rfl (by decide +kernel) (fun v w h => h) ?_) ?_
            · intro ρ W hC hc hf hL
              have e92 : ρ (.tmp 92) = .bool F := hL 92 (by decide +kernel)
              have e93 : ρ (.tmp 93) = .bool F := hL 93 (by decide +kernel)
              simp [go_sem, hc, hf, e92, e93]
              exact ⟨Below.refl _ _, rfl⟩
            refine gSt (gStep_run rfl (gRun_pickT 91 94 95 _ rfl rfl (by decide +kernel) (by decide +kernel) (fun v w h => h) (fun v w h => h))) ?_
            refine gSt (gStep_run rfl (gRun_move 95 96 (.inl rfl) rfl (by decide +kernel) (fun v w h => h))) ?_
            refine gSt (gStep_on 14 96 true rfl rfl (by decide +kernel) (fun v w h => h) ?_) ?_
            · intro ρ W hC hc hf hL
              have e19 : ρ (.tmp 19) = .pointer (some ⟨p19, 0, none⟩) := hL 19 (by decide +kernel)
              have hl := hC.2.2.1
              simp [go_sem, hc, hf, e19, hl]
              exact ⟨Below.refl _ _, rfl⟩
            refine gSt (gStep_on 14 96 true rfl rfl (by decide +kernel) (fun v w h => h) ?_) ?_
            · intro ρ W hC hc hf hL
              simp [go_sem, hc, hf]
              exact ⟨Below.refl _ _, rfl⟩
            refine gSt (gStep_on 14 96 true rfl rfl (by decide +kernel) (fun v w h => h) ?_) ?_
            · intro ρ W hC hc hf hL
              have e97 : ρ (.tmp 97) = .agg #[.int .u64 (dgl (1) 0 : Nat), .int .u64 (dgl (1) 1 : Nat), .int .u64 (dgl (1) 2 : Nat), .int .u64 (dgl (1) 3 : Nat), .int .u64 (dgl (1) 4 : Nat), .int .u64 (dgl (1) 5 : Nat), .int .u64 (dgl (1) 6 : Nat), .int .u64 (dgl (1) 7 : Nat)] := hL 97 (by decide +kernel)
              have e98 : ρ (.tmp 98) = .agg #[.int .u64 1, .int .u64 0, .int .u64 0, .int .u64 0, .int .u64 0, .int .u64 0, .int .u64 0, .int .u64 0] := hL 98 (by decide +kernel)
              simp [go_sem, hc, hf, e97, e98, hone]
              exact ⟨Below.refl _ _, rfl⟩
            refine gSt (gStep_run rfl (gRun_pickT 96 99 100 _ rfl rfl (by decide +kernel) (by decide +kernel) (fun v w h => h) (fun v w h => h))) ?_
            refine gSt (gStep_run rfl (gRun_move 100 101 (.inl rfl) rfl (by decide +kernel) (fun v w h => h))) ?_
            refine gSt (gStep_on 19 101 true rfl rfl (by decide +kernel) (fun v w h => h) (gRun_move 20 102 (.inl rfl) rfl (by decide +kernel) (fun v w h => h))) ?_
            refine gSt (gStep_run rfl (gRun_pickT 101 102 103 _ rfl rfl (by decide +kernel) (by decide +kernel) (fun v w h => h) (fun v w h => h))) ?_
            refine gSt (gStep_run rfl (gRun_move 103 104 (.inl rfl) rfl (by decide +kernel) (fun v w h => h))) ?_
            refine gSt (gStep_on 22 104 true rfl rfl (by decide +kernel) (fun v w h => h) ?_) ?_
            · intro ρ W hC hc hf hL
              simp [go_sem, hc, hf]
              refine (awake3_any _).mono ?_
              rintro e w' ⟨rfl, hb⟩
              exact ⟨_, rfl, by first | exact hb | (subst hb; exact Below.refl _ _), rfl⟩
            refine gSt (gStep_run rfl (gRun_pickT 104 105 106 _ rfl rfl (by decide +kernel) (by decide +kernel) (fun v w h => h) (fun v w h => h))) ?_
            refine gSt (gStep_run rfl (gRun_move 106 6 (.inr rfl) rfl (by decide +kernel) (fun v w h => h))) ?_
            exact gSt0
          · intro W hC
            refine gFi 82 rfl ?_
            rintro _ rfl
            refine gFi 83 rfl ?_
            rintro _ rfl
            refine gFi 84 rfl ?_
            rintro _ rfl
            refine gFi 85 rfl ?_
            rintro _ rfl
            refine gFi 86 rfl ?_
            rintro _ rfl
            refine gFi 87 rfl ?_
            rintro _ rfl
            refine gFi 88 rfl ?_
            rintro _ rfl
            refine gFi 89 rfl ?_
            rintro _ rfl
            refine gFi 90 rfl ?_
            rintro _ rfl
            refine gFi 91 rfl ?_
            rintro _ rfl
            refine gFi 92 rfl ?_
            rintro _ rfl
            refine gFi 93 rfl ?_
            rintro _ rfl
            refine gFi 94 rfl ?_
            rintro _ rfl
            refine gFi 95 rfl ?_
            rintro _ rfl
            refine gFi 96 rfl ?_
            rintro _ rfl
            refine gFi 97 rfl ?_
            rintro _ rfl
            refine gFi 98 rfl ?_
            rintro _ rfl
            refine gFi 99 rfl ?_
            rintro _ rfl
            refine gFi 100 rfl ?_
            rintro _ rfl
            refine gFi 101 rfl ?_
            rintro _ rfl
            refine gFi 102 rfl ?_
            rintro _ rfl
            refine gFi 103 rfl ?_
            rintro _ rfl
            refine gFi 104 rfl ?_
            rintro _ rfl
            refine gFi 105 rfl ?_
            rintro _ rfl
            refine gFi 106 rfl ?_
            rintro _ rfl
            refine gFi 6 rfl ?_
            rintro _ rfl
            refine gFi0 ?_
            simp only [List.drop_succ_cons, List.drop_zero, Act.put, List.setIfInBounds_toArray, List.set_cons_succ, List.set_cons_zero]
            have HB0 := hide hC.1.bel
            clear hC HS H17 H19
            go_wp2
            go_ret
            exact ⟨rfl, HB0.out⟩


end Go.Proofs.Ytenbomfoihajhaa

/- For all lists of wides, all wides and all bytes the law radicandlaw03.ProdSums returns true. -/
set_option linter.unusedVariables false
set_option linter.unusedSimpArgs false
set_option maxRecDepth 8000
namespace Go.Proofs.Ytenbomfoihajhaa
open Go.ChangeShapes Go.WideShapes Go.ChangeAt Go.RowKit Go.Deep Plain

theorem u8_nat {a : Int} (h : (Lit.int .u8 a).wf = true) : ∃ x : Nat, a = (x : Int) ∧ x < 256 := by
  simp only [Lit.wf, Bool.and_eq_true, decide_eq_true_eq] at h
  have hmin : IntKind.u8.min = 0 := rfl
  have hmax : IntKind.u8.max = 255 := rfl
  exact ⟨a.toNat, by omega, by omega⟩

theorem wide_of_list (cs : List Value) (hs : cs.length = 8) (h : ∀ i, i < 8 → ∃ n : Nat, n < 18446744073709551616 ∧ cs[i]? = some (.int .u64 (n : Nat))) : ∃ x, x < QQ ∧ ∀ i, i < 8 → cs[i]? = some (.int .u64 (dgl x i : Nat)) := by
  obtain ⟨x, hx, e⟩ := wide_of_cells cs.toArray (by simpa using hs) (fun i hi => by simpa using h i hi)
  refine ⟨x, hx, fun i hi => ?_⟩
  have e2 : cs = (#[.int .u64 (dgl (x) 0 : Nat), .int .u64 (dgl (x) 1 : Nat), .int .u64 (dgl (x) 2 : Nat), .int .u64 (dgl (x) 3 : Nat), .int .u64 (dgl (x) 4 : Nat), .int .u64 (dgl (x) 5 : Nat), .int .u64 (dgl (x) 6 : Nat), .int .u64 (dgl (x) 7 : Nat)] : Array Value).toList := by rw [← e]
  rw [e2]
  match i, hi with
  | 0, _ => rfl
  | 1, _ => rfl
  | 2, _ => rfl
  | 3, _ => rfl
  | 4, _ => rfl
  | 5, _ => rfl
  | 6, _ => rfl
  | 7, _ => rfl

theorem wides_of_trod {H : Type} {enc : TypeId × Value → H} {W : World} {r : Reach} {b0 base : Nat} {sp : Nat → Bool} {held : Bool} {v : Value} {d : DataW H} {ps : List MemPlace}
    (hval : Value.okWide Try.prog W r b0 63 v) (hd : DataW.Trod enc Try.prog W base sp held 63 v d ps) : ∃ l, RdW W v l ∧ ∀ i, dg l i < QQ := by
  have hq0 : 0 < QQ := Nat.lt_trans (by decide) one_lt_qq
  obtain ⟨a0, len0, cap0, rfl⟩ := okWide_slice Try.underlying63 hval
  have hc : Try.prog.cellsOf 24 = 8 := by kernel_rfl
  have hc1 : Try.prog.cellsOf 22 = 1 := by kernel_rfl
  obtain ⟨fuel, hf⟩ := hd
  rcases open_slice Try.underlying63 hf with ⟨hcs, _⟩ | ⟨a, len, cap, m, n, D, Pl, hcs, hb, hl, hm, hmm, _, hget⟩
  · simp [Value.cells] at hcs
    obtain ⟨rfl, rfl, rfl⟩ := hcs
    exact ⟨[], ⟨none, 0, rfl, Nat.le_refl _, by simp [maxLen], .inl rfl⟩, fun i => by rw [getD_past _ _ (by simp)]; exact hq0⟩
  · simp [Value.cells] at hcs
    obtain ⟨rfl, rfl, rfl⟩ := hcs
    have hlm : len0 ≤ m := by rw [hmm]; split <;> omega
    rw [hc] at hget
    have hel : ∀ i, i < len0 → ∃ x, x < QQ ∧ ∀ j, j < 8 → W.cell? ((a.add (i * 8)).add j) = some (.int .u64 (dgl x j : Nat)) := by
      intro i hi
      obtain ⟨cs', h1, h2⟩ := hget i (by omega)
      obtain ⟨_, hlen, hcell⟩ := World.cells?_some h1
      obtain ⟨xs, m', _, _, _, hxl, hxget⟩ := DataW.trod_array Try.underlying24 h2
      rw [hc1] at hxget
      obtain ⟨x, hx, hxe⟩ := wide_of_list cs' hlen (fun j hj => by
        have h3 := hxget j hj
        rw [List.getElem?_eq_getElem (by omega)] at h3
        obtain ⟨y, ey, _, wy⟩ := DataW.trod_int Try.underlying22 h3
        obtain ⟨z, rfl, hz⟩ := u64_nat wy
        refine ⟨z, hz, ?_⟩
        rw [Nat.mul_one] at ey
        have := congrArg (fun l => l[0]?) ey
        simpa [List.getElem?_take, List.getElem?_drop] using this)
      exact ⟨x, hx, fun j hj => by rw [hcell j hj]; exact hxe j hj⟩
    have hch : ∃ f : Nat → Nat, ∀ i, i < len0 → f i < QQ ∧ ∀ j, j < 8 → W.cell? ((a.add (i * 8)).add j) = some (.int .u64 (dgl (f i) j : Nat)) :=
      ⟨fun i => if hi : i < len0 then Classical.choose (hel i hi) else 0, fun i hi => by simp only [dif_pos hi]; exact Classical.choose_spec (hel i hi)⟩
    obtain ⟨f, hfx⟩ := hch
    refine ⟨(List.range len0).map f, ⟨some a, cap0, by simp, by simpa using hl, hm, ?_⟩, fun i => ?_⟩
    · by_cases h0 : len0 = 0
      · exact .inl (by simp [h0])
      · obtain ⟨b, off, spot⟩ := a
        have hspot : spot = none := by simpa [Addr.add] using World.cell?_spot ((hfx 0 (by omega)).2 0 (by decide))
        subst hspot
        have h00 := (hfx 0 (by omega)).2 0 (by decide)
        refine .inr ⟨b, off, rfl, ?_, fun i j hi hj => ?_⟩
        · have := World.block_lt_of_cell? W _ h00
          simpa [Addr.add] using this
        · have hi2 : i < len0 := by simpa using hi
          have := (hfx i hi2).2 j hj
          have e : dg ((List.range len0).map f) i = f i := by simp [dg, hi2]
          rw [e, ← this, Go.WideShapes.add_plain, Go.WideShapes.add_plain]
    · rcases Nat.lt_or_ge i len0 with hi | hi
      · have e : dg ((List.range len0).map f) i = f i := by simp [dg, hi]
        rw [e]; exact (hfx i hi).1
      · rw [getD_past _ _ (by simpa using hi)]; exact hq0

theorem prodSums_walk (l : List Nat) (v : Value) (a x : Nat) (w : World) (hr : RdW w v l) (hl : ∀ i, dg l i < QQ) (ha : a < QQ) (hx : x < 256) :
    Calls Try.prog 9 #[v, .agg #[.int .u64 (dgl (a) 0 : Nat), .int .u64 (dgl (a) 1 : Nat), .int .u64 (dgl (a) 2 : Nat), .int .u64 (dgl (a) 3 : Nat), .int .u64 (dgl (a) 4 : Nat), .int .u64 (dgl (a) 5 : Nat), .int .u64 (dgl (a) 6 : Nat), .int .u64 (dgl (a) 7 : Nat)], .int .u8 (x : Nat)] w fun e w' => e = .returned (.bool true) ∧ Below w.heap.size w w' := by
  by_cases hlen : 20 < l.length
  · exact prodSums_long l v a x w hr hlen
  · have hr0 := hr
    obtain ⟨ao, ca, rfl, hca, hma, hra⟩ := hr
    have hpz := fun W => prodPower_any a 0 (-1) (by decide) (by decide) ha W
    rw [Nat.pow_zero, decide_eq_true one_lt_qq] at hpz
    refine prodSums_first l ao ca l.length a x (x % 20) (a ^ (x % 20)) (dgl (sumN l l.length)) _ _ w rfl (by omega) hca (by unfold maxLen at hma; omega) hra hl hx rfl (by omega) ha rfl rfl
      (fun v w h => refWide_any _ _ v w h) (fun W hb => prodSum_any l _ W (hr0.below hb) hl) (fun W => prodPower_any a (x % 20) ((x % 20 : Nat) : Int) (by omega) (by omega) ha W) hpz

end Go.Proofs.Ytenbomfoihajhaa

/- For all lists of wides, all wides and all bytes the law radicandlaw03.ProdSums returns true, and its arguments read afterwards as they read before. No condition. -/
namespace Go.Proofs.Ytenbomfoihajhaa.prodSums
open Go.ChangeShapes Go.WideShapes Go.ChangeAt Go.RowKit Go.Proofs.Ytenbomfoihajhaa

theorem own : ownKnob Try.prog.godebug = none := by kernel_rfl
theorem laidOut : laidOutB Try.prog = true := by kernel_rfl

set_option maxRecDepth 100000 in
theorem lifted (os : Os) (started : os.Started) (H : Type) (enc : TypeId × Value → H) :
    ReturnsInHanded {} Try.checked os 9 .any (Rows.prodSumsSpec.pre6 enc Try.prog Try.f9 Rows.prodSumsRow.domain false) (Rows.prodSumsSpec.post enc Try.prog Try.f9 false true false false) := by
  refine returnsInHanded_of_change (C := Try.checked) own started (by kernel_rfl) Try.func9
    (ChangeSpec.witness6 (enc := enc) (C := Try.checked) false ⟨#[], #[.slice none 0 0, .agg #[.int .u64 0, .int .u64 0, .int .u64 0, .int .u64 0, .int .u64 0, .int .u64 0, .int .u64 0, .int .u64 0], .int .u8 0], []⟩ 40 (by kernel_rfl) (by kernel_rfl) (by kernel_rfl) (by kernel_rfl)) ?_
  intro W base args ds gs before hval0 hW hcnd _
  have hval : ∀ (j : Nat) t v, Try.f9.params[j]? = some t → args[j]? = some v → Value.okWide Try.prog W .any base t v := hval0
  have hW' := hW
  obtain ⟨p, q, hA0, hV, rfl, hfz, hnd⟩ := hW
  have hA : DataW.TrodAll enc Try.prog W 0 (fun _ => true) true Try.f9.params.toList args.toList ds p := hA0
  rw [Try.params9] at hA hval
  obtain ⟨v0, vs0, d0, ds0, p0, q0, hargs, rfl, rfl, h0, r0⟩ := trodAll_cons hA
  obtain ⟨v1, vs1, d1, ds1, p1, q1, rfl, rfl, rfl, h1, r1⟩ := trodAll_cons r0
  obtain ⟨v2, vs2, d2, ds2, p2, q2, rfl, rfl, rfl, h2, r2⟩ := trodAll_cons r1
  obtain ⟨rfl, rfl, rfl⟩ := trodAll_nil r2
  obtain rfl : args = #[v0, v1, v2] := by cases args; simp_all
  obtain ⟨rfl, rfl⟩ := trodVars_none hV
  have k0 := h0
  have lt0 : ∀ x ∈ p0, x.block < W.heap.size := by obtain ⟨m, hm⟩ := k0; exact DataW.trod_lt m _ _ _ hm
  have k1 := h1
  have lt1 : ∀ x ∈ p1, x.block < W.heap.size := by obtain ⟨m, hm⟩ := k1; exact DataW.trod_lt m _ _ _ hm
  have k2 := h2
  have lt2 : ∀ x ∈ p2, x.block < W.heap.size := by obtain ⟨m, hm⟩ := k2; exact DataW.trod_lt m _ _ _ hm
  obtain ⟨l0, rw0, hl0⟩ := wides_of_trod (hval 0 63 v0 rfl rfl) h0
  obtain ⟨x1, hx1, rfl⟩ := wide_of_trod (hval 1 24 v1 rfl rfl) h1
  obtain ⟨a2, rfl, rfl, rfl, wf2⟩ := open_int Try.underlying5 (hval 2 5 v2 rfl rfl) h2
  clear hA0 hval0
  obtain ⟨n2, rfl, hn2⟩ := u8_nat wf2
  refine (prodSums_walk l0 v0 x1 n2 W rw0 hl0 hx1 hn2).mono fun e W' ⟨he, bel⟩ => ?_
  subst he
  exact ⟨_, rfl, _, _, _, [], _, [], hW', trodAll_mk1 (shut_bool Try.underlying4 _), (trodAll_cons_mk (Below.trod laidOut (by kernel_rfl) (of_decide_eq_true (by kernel_rfl)) k0 bel lt0) (trodAll_cons_mk (Below.trod laidOut (by kernel_rfl) (of_decide_eq_true (by kernel_rfl)) k1 bel lt1) (trodAll_cons_mk (Below.trod laidOut (by kernel_rfl) (of_decide_eq_true (by kernel_rfl)) k2 bel lt2) trodAll_mk0))), rfl, bel.frame _, fun h => by cases h⟩

theorem over : Rows.prodSumsRow.holds Try.pinned (OpenSpec.ofChange Rows.prodSumsSpec) :=
  OpenClaim.holds_of_wide 9 Try.f9 rfl rfl rfl rfl rfl rfl rfl ⟨rfl, rfl, rfl, rfl, rfl⟩ rfl rfl rfl rfl rfl (by kernel_rfl) Try.func9 (by kernel_rfl)
    (of_decide_eq_true (by kernel_rfl)) (by unfold Func.isWrapper; first | (rw [if_pos (by decide +kernel)]; kernel_rfl) | (rw [if_neg (by decide +kernel)]; exact ⟨rfl, rfl⟩))
    (fun os started H enc _ => lifted os started H enc)

theorem proved : Rows.ProdSumsSaid := over
#print axioms proved
end Go.Proofs.Ytenbomfoihajhaa.prodSums

