/- UnpackOrder: for every format and any two words the law returns true. Conditions: those of the tied card (the table of formats is laid as the program lays it). -/
import Derived.Test.YtidfegilddlglaaDoorXUnJ
import Derived.Test.YtidfegilddlglaaDoorRows
import Derived.Test.YtidfegilddlglaaDoorTie
import Derived.Test.YtidfegilddlglaaDoorCards
import Derived.LaidMore
import Derived.Stop.Joined
import Derived.SevenTiedAt
import Derived.Test.YtidfegilddlglaaDoorXFmtJ
import Derived.Test.YtidfegilddlglaaDoorBaseZ
import Derived.WalkKit
import Derived.ProofKit
import Derived.OpenShut
import Derived.ShutString
import Derived.ChangeOld
import Derived.Below
/- The walk of UnpackOrder. -/
set_option linter.unusedVariables false
set_option linter.unusedSimpArgs false
set_option maxRecDepth 8000
namespace Go.Proofs.YtidfegilddlglaaDoor
open Go.RowKit Plain

structure OrSt (a b : Nat) (w W : World) : Prop where
  g : FmtG W
  wa : WB W w.heap.size (dgl a 1) (dgl a 0)
  za : ∀ i, W.frozen? ⟨w.heap.size, i, none⟩ = false
  wb : WB W (w.heap.size + 1) (dgl b 1) (dgl b 0)
  zb : ∀ i, W.frozen? ⟨w.heap.size + 1, i, none⟩ = false
  ow : 0 < w.heap.size
  bel : Below w.heap.size w W
theorem OrSt.below {a b : Nat} {w W W' : World} (h : OrSt a b w W) (hb : Below W.heap.size W W') : OrSt a b w W' :=
  ⟨h.g.below hb, h.wa.below hb, fun i => (hb.frozen (p := ⟨w.heap.size, i, none⟩) h.wa.lt).trans (h.za i), h.wb.below hb, fun i => (hb.frozen (p := ⟨w.heap.size + 1, i, none⟩) h.wb.lt).trans (h.zb i), h.ow, below_trans h.bel hb⟩
theorem orSt_start (a b : Nat) (w : World) (hg : FmtG w) : OrSt a b w ((w.alloc (.cells #[.int .u64 (dgl (a) 1 : Nat), .int .u64 (dgl (a) 0 : Nat)] 24)).alloc (.cells #[.int .u64 (dgl (b) 1 : Nat), .int .u64 (dgl (b) 0 : Nat)] 24)) :=
  ⟨(hg.below (below_allocs _ _)).below (below_allocs _ _), ⟨by simp [go_sem], by simp [go_sem], by simp; omega⟩, fun i => by simp [go_sem], ⟨by simp [go_sem], by simp [go_sem], by simp⟩, fun i => by simp [go_sem], hg.lt, below_trans (below_allocs _ _) (below_allocs _ _)⟩
theorem wb_ne {W : World} {p q x y : Nat} {u t : Value} (h : WB W p x y) (hne : ¬ p = q) : WB ((W.setCell ⟨q, 0, none⟩ u).setCell ⟨q, 1, none⟩ t) p x y :=
  ⟨by simpa [go_sem, hne] using h.h, by simpa [go_sem, hne] using h.l, by simpa [go_sem] using h.lt⟩
theorem OrSt.setA {a b : Nat} {w W : World} (h : OrSt a b w W) (c : Nat) : OrSt c b w ((W.setCell ⟨w.heap.size, 0, none⟩ (.int .u64 (dgl c 1 : Nat))).setCell ⟨w.heap.size, 1, none⟩ (.int .u64 (dgl c 0 : Nat))) := by
  have hb := ((Below.refl w.heap.size W).setCell (p := ⟨w.heap.size, 0, none⟩) (Nat.le_refl _) (.int .u64 (dgl c 1 : Nat))).setCell (p := ⟨w.heap.size, 1, none⟩) (Nat.le_refl _) (.int .u64 (dgl c 0 : Nat))
  exact ⟨⟨fun i hi => (hb.cell (p := ⟨0, i, none⟩) h.ow).trans (h.g.c i hi), Nat.lt_of_lt_of_le h.g.lt hb.size⟩, wb_set h.wa, fun i => by simpa [go_sem] using h.za i, wb_ne h.wb (by omega), fun i => by simpa [go_sem] using h.zb i, h.ow, h.bel.trans hb⟩
theorem OrSt.setB {a b : Nat} {w W : World} (h : OrSt a b w W) (c : Nat) : OrSt a c w ((W.setCell ⟨w.heap.size + 1, 0, none⟩ (.int .u64 (dgl c 1 : Nat))).setCell ⟨w.heap.size + 1, 1, none⟩ (.int .u64 (dgl c 0 : Nat))) := by
  have hb := ((Below.refl w.heap.size W).setCell (p := ⟨w.heap.size + 1, 0, none⟩) (Nat.le_succ _) (.int .u64 (dgl c 1 : Nat))).setCell (p := ⟨w.heap.size + 1, 1, none⟩) (Nat.le_succ _) (.int .u64 (dgl c 0 : Nat))
  exact ⟨⟨fun i hi => (hb.cell (p := ⟨0, i, none⟩) h.ow).trans (h.g.c i hi), Nat.lt_of_lt_of_le h.g.lt hb.size⟩, wb_ne h.wa (by omega), fun i => by simpa [go_sem] using h.za i, wb_set h.wb, fun i => by simpa [go_sem] using h.zb i, h.ow, h.bel.trans hb⟩

set_option maxHeartbeats 4000000 in
theorem unpackOrder_N1 (f k1 k2 ea eb r : Int) (a b c d x y : Nat) (ga : Bool)
    (HK1 : Hid (∀ w, Calls Tryd.prog 12 #[.int .i64 f, .agg #[.int .u64 (dgl (a) 1 : Nat), .int .u64 (dgl (a) 0 : Nat)]] w fun e w' => e = .returned (.int .i64 k1) ∧ Below w.heap.size w w'))
    (h1 : k1 < 4) (w : World) (hg : FmtG w) :
    Calls Tryd.prog 11 #[.int .i64 f, .agg #[.int .u64 (dgl (a) 1 : Nat), .int .u64 (dgl (a) 0 : Nat)], .agg #[.int .u64 (dgl (b) 1 : Nat), .int .u64 (dgl (b) 0 : Nat)]] w fun e w' => e = .returned (.bool true) ∧ Below w.heap.size w w' := by
  have HS := hide (orSt_start a b w hg)
  clear hg
  go_enter Tryd.func11, Tryd.ntmps11
  go_upto_region 1 with fail
  refine wp_gen (fun W => OrSt a b w W) HS.out ?_
  clear HS
  rintro W1 g1
  have HS := hide g1
  clear g1
  have l0 := HS.out.wa.h
  have l1 := HS.out.wa.l
  go_wp2_with fail
  refine (HK1.out _).mono ?_
  rintro e w1 ⟨rfl, hb1⟩
  replace HS := hide (HS.out.below hb1)
  clear hb1 l0 l1
  go_wp2_with fail
  refine (awake7_any _ HS.out.g).mono ?_
  rintro e w9 ⟨rfl, hb9⟩
  have HB := hide (below_trans HS.out.bel hb9)
  clear hb9 HS
  go_wp2
  go_ret
  exact ⟨rfl, HB.out⟩

set_option maxHeartbeats 4000000 in
theorem unpackOrder_N2 (f k1 k2 ea eb r : Int) (a b c d x y : Nat) (ga : Bool)
    (HK1 : Hid (∀ w, Calls Tryd.prog 12 #[.int .i64 f, .agg #[.int .u64 (dgl (a) 1 : Nat), .int .u64 (dgl (a) 0 : Nat)]] w fun e w' => e = .returned (.int .i64 k1) ∧ Below w.heap.size w w'))
    (h1 : ¬ k1 < 4)
    (HK2 : Hid (∀ w, Calls Tryd.prog 12 #[.int .i64 f, .agg #[.int .u64 (dgl (b) 1 : Nat), .int .u64 (dgl (b) 0 : Nat)]] w fun e w' => e = .returned (.int .i64 k2) ∧ Below w.heap.size w w'))
    (h2 : k2 < 4) (w : World) (hg : FmtG w) :
    Calls Tryd.prog 11 #[.int .i64 f, .agg #[.int .u64 (dgl (a) 1 : Nat), .int .u64 (dgl (a) 0 : Nat)], .agg #[.int .u64 (dgl (b) 1 : Nat), .int .u64 (dgl (b) 0 : Nat)]] w fun e w' => e = .returned (.bool true) ∧ Below w.heap.size w w' := by
  have HS := hide (orSt_start a b w hg)
  clear hg
  go_enter Tryd.func11, Tryd.ntmps11
  go_upto_region 1 with fail
  refine wp_gen (fun W => OrSt a b w W) HS.out ?_
  clear HS
  rintro W1 g1
  have HS := hide g1
  clear g1
  have l0 := HS.out.wa.h
  have l1 := HS.out.wa.l
  go_wp2_with fail
  refine (HK1.out _).mono ?_
  rintro e w1 ⟨rfl, hb1⟩
  replace HS := hide (HS.out.below hb1)
  clear hb1 l0 l1
  have l0 := HS.out.wb.h
  have l1 := HS.out.wb.l
  go_wp2_with fail
  refine (HK2.out _).mono ?_
  rintro e w2 ⟨rfl, hb2⟩
  replace HS := hide (HS.out.below hb2)
  clear hb2 l0 l1
  go_wp2_with fail
  refine (awake7_any _ HS.out.g).mono ?_
  rintro e w9 ⟨rfl, hb9⟩
  have HB := hide (below_trans HS.out.bel hb9)
  clear hb9 HS
  go_wp2
  go_ret
  exact ⟨rfl, HB.out⟩

set_option maxHeartbeats 4000000 in
theorem unpackOrder_L (f k1 k2 ea eb r : Int) (a b c d x y : Nat) (ga : Bool)
    (HK1 : Hid (∀ w, Calls Tryd.prog 12 #[.int .i64 f, .agg #[.int .u64 (dgl (a) 1 : Nat), .int .u64 (dgl (a) 0 : Nat)]] w fun e w' => e = .returned (.int .i64 k1) ∧ Below w.heap.size w w'))
    (h1 : ¬ k1 < 4)
    (HK2 : Hid (∀ w, Calls Tryd.prog 12 #[.int .i64 f, .agg #[.int .u64 (dgl (b) 1 : Nat), .int .u64 (dgl (b) 0 : Nat)]] w fun e w' => e = .returned (.int .i64 k2) ∧ Below w.heap.size w w'))
    (h2 : ¬ k2 < 4)
    (HA1 : Hid (∀ w, Calls Tryd.prog 25 #[.int .i64 f, .agg #[.int .u64 (dgl (a) 1 : Nat), .int .u64 (dgl (a) 0 : Nat)], .bool false] w fun e w' => e = .returned (.agg #[.int .u64 (dgl (c) 1 : Nat), .int .u64 (dgl (c) 0 : Nat)]) ∧ Below w.heap.size w w'))
    (HA2 : Hid (∀ w, Calls Tryd.prog 25 #[.int .i64 f, .agg #[.int .u64 (dgl (b) 1 : Nat), .int .u64 (dgl (b) 0 : Nat)], .bool false] w fun e w' => e = .returned (.agg #[.int .u64 (dgl (d) 1 : Nat), .int .u64 (dgl (d) 0 : Nat)]) ∧ Below w.heap.size w w'))
    (HV1 : Hid (∀ w, FmtG w → Calls Tryd.prog 34 #[.int .i64 f, .agg #[.int .u64 (dgl (c) 1 : Nat), .int .u64 (dgl (c) 0 : Nat)]] w fun e w' => e = .returned (.tuple #[.agg #[.bool (false), .int .i64 (ea), .int .u64 (dgl (x) 0 : Nat), .int .u64 (dgl (x) 1 : Nat), .int .u64 (dgl (x) 2 : Nat), .int .u64 (dgl (x) 3 : Nat), .int .u64 (dgl (x) 4 : Nat), .int .u64 (dgl (x) 5 : Nat), .int .u64 (dgl (x) 6 : Nat), .int .u64 (dgl (x) 7 : Nat)], .bool true]) ∧ Below w.heap.size w w'))
    (HV2 : Hid (∀ w, FmtG w → Calls Tryd.prog 34 #[.int .i64 f, .agg #[.int .u64 (dgl (d) 1 : Nat), .int .u64 (dgl (d) 0 : Nat)]] w fun e w' => e = .returned (.tuple #[.agg #[.bool (false), .int .i64 (eb), .int .u64 (dgl (y) 0 : Nat), .int .u64 (dgl (y) 1 : Nat), .int .u64 (dgl (y) 2 : Nat), .int .u64 (dgl (y) 3 : Nat), .int .u64 (dgl (y) 4 : Nat), .int .u64 (dgl (y) 5 : Nat), .int .u64 (dgl (y) 6 : Nat), .int .u64 (dgl (y) 7 : Nat)], .bool true]) ∧ Below w.heap.size w w'))
    (HCP : Hid (∀ w, Calls Tryd.prog 44 #[.agg #[.bool (false), .int .i64 (ea), .int .u64 (dgl (x) 0 : Nat), .int .u64 (dgl (x) 1 : Nat), .int .u64 (dgl (x) 2 : Nat), .int .u64 (dgl (x) 3 : Nat), .int .u64 (dgl (x) 4 : Nat), .int .u64 (dgl (x) 5 : Nat), .int .u64 (dgl (x) 6 : Nat), .int .u64 (dgl (x) 7 : Nat)], .agg #[.bool (false), .int .i64 (eb), .int .u64 (dgl (y) 0 : Nat), .int .u64 (dgl (y) 1 : Nat), .int .u64 (dgl (y) 2 : Nat), .int .u64 (dgl (y) 3 : Nat), .int .u64 (dgl (y) 4 : Nat), .int .u64 (dgl (y) 5 : Nat), .int .u64 (dgl (y) 6 : Nat), .int .u64 (dgl (y) 7 : Nat)]] w fun e w' => e = .returned (.int .i64 r) ∧ Below w.heap.size w w'))
    (hlt : ((dgl c 1 : Nat) : Int) < ((dgl d 1 : Nat) : Int))
    (HB1 : Hid (decide (r < 0) = true)) (HB2 : Hid ((r == 0) = ga)) (HWE : Hid (∀ w, (Op.equalIn 10000 24 (.agg #[.int .u64 (dgl (c) 1 : Nat), .int .u64 (dgl (c) 0 : Nat)]) (.agg #[.int .u64 (dgl (d) 1 : Nat), .int .u64 (dgl (d) 0 : Nat)])).run Tryd.prog w = .ok ga w)) (w : World) (hg : FmtG w) :
    Calls Tryd.prog 11 #[.int .i64 f, .agg #[.int .u64 (dgl (a) 1 : Nat), .int .u64 (dgl (a) 0 : Nat)], .agg #[.int .u64 (dgl (b) 1 : Nat), .int .u64 (dgl (b) 0 : Nat)]] w fun e w' => e = .returned (.bool true) ∧ Below w.heap.size w w' := by
  have HS := hide (orSt_start a b w hg)
  clear hg
  go_enter Tryd.func11, Tryd.ntmps11
  go_upto_region 1 with fail
  refine wp_gen (fun W => OrSt a b w W) HS.out ?_
  clear HS
  rintro W1 g1
  have HS := hide g1
  clear g1
  have l0 := HS.out.wa.h
  have l1 := HS.out.wa.l
  go_wp2_with fail
  refine (HK1.out _).mono ?_
  rintro e w1 ⟨rfl, hb1⟩
  replace HS := hide (HS.out.below hb1)
  clear hb1 l0 l1
  have l0 := HS.out.wb.h
  have l1 := HS.out.wb.l
  go_wp2_with fail
  refine (HK2.out _).mono ?_
  rintro e w2 ⟨rfl, hb2⟩
  replace HS := hide (HS.out.below hb2)
  clear hb2 l0 l1
  go_upto_region 3 with fail
  refine wp_gen (fun W => OrSt a b w W) HS.out ?_
  clear HS
  rintro W3 h3
  refine wp_region_storeK 8 [6, 7] [23, 24, 25, 26, 27, 28] (fun bs => [(23, .val (.int .i64 f)), (24, .val (.agg #[.int .u64 (dgl (a) 1 : Nat), .int .u64 (dgl (a) 0 : Nat)])), (25, .val (.agg #[.int .u64 (dgl (c) 1 : Nat), .int .u64 (dgl (c) 0 : Nat)])), (26, .val (.int .i64 f)), (27, .val (.agg #[.int .u64 (dgl (b) 1 : Nat), .int .u64 (dgl (b) 0 : Nat)])), (28, .val (.agg #[.int .u64 (dgl (d) 1 : Nat), .int .u64 (dgl (d) 0 : Nat)]))])
    (fun bs W => ∀ p q, bs.headD false = p → bs.tail.headD false = q → OrSt (bif p then c else a) (bif q then d else b) w W) (fun bs => rfl) mixedOk (by kernel_rfl) (by kernel_rfl) (by kernel_rfl) (fun p q hp hq => by subst hp hq; exact h3.below (Below.refl _ _).drew) (fun bs W W' h hb p q hp hq => (h p q hp hq).below hb) ?_ ?_
  · refine kSt rfl (fun φ hφ => gStep_run rfl (gRun_move 0 23 (.inl rfl) rfl (by decide +kernel) (fun v w h => h))) ?_
    refine kSt rfl (fun φ hφ => gStep_run rfl ?_) ?_
    · intro ρ W hC hc hf hL
      have e4 : ρ (.tmp 4) = .pointer (some ⟨w.heap.size, 0, none⟩) := hL 4 (by decide +kernel)
      have hφ0 : φ 6 = false := hφ 6 (by simp) (by kernel_rfl)
      have hD : OrSt a (bif φ 7 then d else b) w W := hC false (φ 7) hφ0 rfl
      have l0 := hD.wa.h
      have l1 := hD.wa.l
      simp [go_sem, hc, hf, e4, l0, l1]
      exact ⟨Below.refl _ _, rfl⟩
    refine kSt rfl (fun φ hφ => gStep_run rfl ?_) ?_
    · intro ρ W hC hc hf hL
      have e23 : ρ (.tmp 23) = .int .i64 f := hL 23 (by decide +kernel)
      have e24 : ρ (.tmp 24) = .agg #[.int .u64 (dgl (a) 1 : Nat), .int .u64 (dgl (a) 0 : Nat)] := hL 24 (by decide +kernel)
      simp [go_sem, hc, hf, e23, e24]
      refine (HA1.out W).mono ?_
      rintro e w' ⟨rfl, hb⟩
      exact ⟨_, rfl, by first | exact hb | (subst hb; exact Below.refl _ _), rfl⟩
    refine kSt rfl (fun φ hφ => gStep_run rfl (gRun_move 0 26 (.inl rfl) rfl (by decide +kernel) (fun v w h => h))) ?_
    refine kSt rfl (fun φ hφ => gStep_run rfl ?_) ?_
    · intro ρ W hC hc hf hL
      have e5 : ρ (.tmp 5) = .pointer (some ⟨w.heap.size + 1, 0, none⟩) := hL 5 (by decide +kernel)
      have hφ0 : φ 7 = false := hφ 7 (by simp) (by kernel_rfl)
      have hD : OrSt (bif φ 6 then c else a) b w W := hC (φ 6) false rfl hφ0
      have l0 := hD.wb.h
      have l1 := hD.wb.l
      simp [go_sem, hc, hf, e5, l0, l1]
      exact ⟨Below.refl _ _, rfl⟩
    refine kSt rfl (fun φ hφ => gStep_run rfl ?_) ?_
    · intro ρ W hC hc hf hL
      have e26 : ρ (.tmp 26) = .int .i64 f := hL 26 (by decide +kernel)
      have e27 : ρ (.tmp 27) = .agg #[.int .u64 (dgl (b) 1 : Nat), .int .u64 (dgl (b) 0 : Nat)] := hL 27 (by decide +kernel)
      simp [go_sem, hc, hf, e26, e27]
      refine (HA2.out W).mono ?_
      rintro e w' ⟨rfl, hb⟩
      exact ⟨_, rfl, by first | exact hb | (subst hb; exact Below.refl _ _), rfl⟩
    refine kStS rfl ⟨rfl, rfl, ?_⟩ ?_
    · intro φ ρ W hφ hC hc hL
      have e4 : ρ (.tmp 4) = .pointer (some ⟨w.heap.size, 0, none⟩) := hL 4 (by decide +kernel)
      have e25 : ρ (.tmp 25) = .agg #[.int .u64 (dgl (c) 1 : Nat), .int .u64 (dgl (c) 0 : Nat)] := hL 25 (by decide +kernel)
      have hD : OrSt a (bif φ 7 then d else b) w W := hC false (φ 7) hφ rfl
      have l0 := hD.wa.h
      have l1 := hD.wa.l
      have hz := hD.za
      have hl := hD.wa.lt
      refine gUpon_of ((W.setCell ⟨w.heap.size, 0, none⟩ (.int .u64 (dgl c 1 : Nat))).setCell ⟨w.heap.size, 1, none⟩ (.int .u64 (dgl c 0 : Nat))) ?_ (fun _ => ?_)
      · simp [go_sem, hc, e4, e25, l0, l1, hz, hl, gUpon]
      refine ⟨fun p q hp hq => ?_, fun t => (tbl_imp rfl (fun _ => val_imp) (tbl_imp rfl (fun _ => val_imp) (tbl_imp rfl (fun _ => val_imp) (tbl_imp rfl (fun _ => val_imp) (tbl_imp rfl (fun _ => val_imp) (tbl_imp rfl (fun _ => val_imp) tbl_nil_imp))))))⟩
      have hp2 : (φ 6 || true) = p := hp
      have hq2 : (φ 7 || false) = q := hq
      rw [Bool.or_true] at hp2
      rw [Bool.or_false] at hq2
      subst hp2 hq2
      exact hD.setA c
    refine kStS rfl ⟨rfl, rfl, ?_⟩ ?_
    · intro φ ρ W hφ hC hc hL
      have e5 : ρ (.tmp 5) = .pointer (some ⟨w.heap.size + 1, 0, none⟩) := hL 5 (by decide +kernel)
      have e28 : ρ (.tmp 28) = .agg #[.int .u64 (dgl (d) 1 : Nat), .int .u64 (dgl (d) 0 : Nat)] := hL 28 (by decide +kernel)
      have hD : OrSt (bif φ 6 then c else a) b w W := hC (φ 6) false rfl hφ
      have l0 := hD.wb.h
      have l1 := hD.wb.l
      have hz := hD.zb
      have hl := hD.wb.lt
      refine gUpon_of ((W.setCell ⟨w.heap.size + 1, 0, none⟩ (.int .u64 (dgl d 1 : Nat))).setCell ⟨w.heap.size + 1, 1, none⟩ (.int .u64 (dgl d 0 : Nat))) ?_ (fun _ => ?_)
      · simp [go_sem, hc, e5, e28, l0, l1, hz, hl, gUpon]
      refine ⟨fun p q hp hq => ?_, fun t => (tbl_imp rfl (fun _ => val_imp) (tbl_imp rfl (fun _ => val_imp) (tbl_imp rfl (fun _ => val_imp) (tbl_imp rfl (fun _ => val_imp) (tbl_imp rfl (fun _ => val_imp) (tbl_imp rfl (fun _ => val_imp) tbl_nil_imp))))))⟩
      have hp2 : (φ 6 || false) = p := hp
      have hq2 : (φ 7 || true) = q := hq
      rw [Bool.or_false] at hp2
      rw [Bool.or_true] at hq2
      subst hp2 hq2
      exact hD.setB d
    exact kSt0
  · intro W hC
    refine gFi 23 rfl ?_
    rintro _ rfl
    refine gFi 24 rfl ?_
    rintro _ rfl
    refine gFi 25 rfl ?_
    rintro _ rfl
    refine gFi 26 rfl ?_
    rintro _ rfl
    refine gFi 27 rfl ?_
    rintro _ rfl
    refine gFi 28 rfl ?_
    rintro _ rfl
    refine gFiN rfl ?_
    refine gFiN rfl ?_
    refine gFi0 ?_
    simp only [List.drop_succ_cons, List.drop_zero, Act.put, List.setIfInBounds_toArray, List.set_cons_succ, List.set_cons_zero]
    have HS : Hid (OrSt c d w W) := hC true true rfl rfl
    clear hC h3
    have l0 := HS.out.wa.h
    have l1 := HS.out.wa.l
    go_wp2_with fail
    refine (HV1.out _ HS.out.g).mono ?_
    rintro e w4 ⟨rfl, hb4⟩
    replace HS := hide (HS.out.below hb4)
    clear hb4 l0 l1
    go_upto_region 5 with fail
    refine wp_gen (fun W => OrSt c d w W ∧ NB W w4.heap.size false ea x) ⟨HS.out.below (below_allocs _ _), nb_new _ _ _ _ _⟩ ?_
    clear HS
    generalize w4.heap.size = p7
    rintro W5 ⟨g1, g2⟩
    have HS := hide g1
    have HN := hide g2
    clear g1 g2
    have l0 := HS.out.wb.h
    have l1 := HS.out.wb.l
    go_wp2_with fail
    refine (HV2.out _ HS.out.g).mono ?_
    rintro e w5 ⟨rfl, hb5⟩
    replace HS := hide (HS.out.below hb5)
    replace HN := hide (HN.out.below hb5)
    clear hb5 l0 l1
    go_upto_region 6 with fail
    refine wp_gen (fun W => OrSt c d w W ∧ NB W p7 false ea x ∧ NB W w5.heap.size false eb y) ⟨HS.out.below (below_allocs _ _), HN.out.below (below_allocs _ _), nb_new _ _ _ _ _⟩ ?_
    clear HS HN
    generalize w5.heap.size = p9
    rintro W6 g
    have HG := hide g
    have l0 := g.1.wa.h
    have l1 := g.1.wa.l
    have l2 := g.1.wb.h
    have l3 := g.1.wb.l
    clear g
    go_upto_region 7 with fail
    refine wp_gen (fun W => OrSt c d w W ∧ NB W p7 false ea x ∧ NB W p9 false eb y) HG.out ?_
    clear HG l0 l1 l2 l3
    rintro W7 h7
    refine wp_region_grow 26 [(60, .val (.bool true)), (61, .val (.bool true)), (62, .val (.bool true)), (63, .val (.bool true)), (64, .val (.bool true)), (65, .val (.agg #[.bool (false), .int .i64 (ea), .int .u64 (dgl (x) 0 : Nat), .int .u64 (dgl (x) 1 : Nat), .int .u64 (dgl (x) 2 : Nat), .int .u64 (dgl (x) 3 : Nat), .int .u64 (dgl (x) 4 : Nat), .int .u64 (dgl (x) 5 : Nat), .int .u64 (dgl (x) 6 : Nat), .int .u64 (dgl (x) 7 : Nat)])), (66, .val (.agg #[.bool (false), .int .i64 (eb), .int .u64 (dgl (y) 0 : Nat), .int .u64 (dgl (y) 1 : Nat), .int .u64 (dgl (y) 2 : Nat), .int .u64 (dgl (y) 3 : Nat), .int .u64 (dgl (y) 4 : Nat), .int .u64 (dgl (y) 5 : Nat), .int .u64 (dgl (y) 6 : Nat), .int .u64 (dgl (y) 7 : Nat)])), (67, .val (.int .i64 r)), (68, .val (.bool true)), (69, .val (.bool true)), (70, .val (.bool true)), (71, .val (.bool true)), (72, .val (.bool true)), (73, .val (.agg #[.bool (false), .int .i64 (ea), .int .u64 (dgl (x) 0 : Nat), .int .u64 (dgl (x) 1 : Nat), .int .u64 (dgl (x) 2 : Nat), .int .u64 (dgl (x) 3 : Nat), .int .u64 (dgl (x) 4 : Nat), .int .u64 (dgl (x) 5 : Nat), .int .u64 (dgl (x) 6 : Nat), .int .u64 (dgl (x) 7 : Nat)])), (74, .val (.agg #[.bool (false), .int .i64 (eb), .int .u64 (dgl (y) 0 : Nat), .int .u64 (dgl (y) 1 : Nat), .int .u64 (dgl (y) 2 : Nat), .int .u64 (dgl (y) 3 : Nat), .int .u64 (dgl (y) 4 : Nat), .int .u64 (dgl (y) 5 : Nat), .int .u64 (dgl (y) 6 : Nat), .int .u64 (dgl (y) 7 : Nat)])), (75, .val (.int .i64 r)), (76, .val (.bool ga)), (77, .val (.agg #[.int .u64 (dgl (c) 1 : Nat), .int .u64 (dgl (c) 0 : Nat)])), (78, .val (.agg #[.int .u64 (dgl (d) 1 : Nat), .int .u64 (dgl (d) 0 : Nat)])), (79, .val (.bool ga)), (80, .val (.bool true)), (81, .val (.bool true)), (82, .val (.bool true)), (83, .val (.bool true)), (84, .val (.bool true)), (6, .val (.bool true))]
      (fun W => OrSt c d w W ∧ NB W p7 false ea x ∧ NB W p9 false eb y) mixedOk (by kernel_rfl) (by kernel_rfl) (⟨h7.1.below (Below.refl _ _).drew, h7.2.1.below (Below.refl _ _).drew, h7.2.2.below (Below.refl _ _).drew⟩) (fun W W' h hb => ⟨h.1.below hb, h.2.1.below hb, h.2.2.below hb⟩) ?_ ?_
    · refine gSt (gStep_run rfl (gRun_move 8 60 (.inl rfl) rfl (by decide +kernel) (fun v w h => h))) ?_
      refine gSt (gStep_run rfl (gRun_move 60 61 (.inl rfl) rfl (by decide +kernel) (fun v w h => h))) ?_
      refine gSt (gStep_on 1 61 true rfl rfl (by decide +kernel) (fun v w h => h) (gRun_move 10 62 (.inl rfl) rfl (by decide +kernel) (fun v w h => h))) ?_
      refine gSt (gStep_run rfl (gRun_pickT 61 62 63 _ rfl rfl (by decide +kernel) (by decide +kernel) (fun v w h => h) (fun v w h => h))) ?_
      refine gSt (gStep_run rfl (gRun_move 63 64 (.inl rfl) rfl (by decide +kernel) (fun v w h => h))) ?_
      refine gSt (gStep_on 4 64 true rfl rfl (by decide +kernel) (fun v w h => h) ?_) ?_
      · intro ρ W hC hc hf hL
        have e7 : ρ (.tmp 7) = .pointer (some ⟨p7, 0, none⟩) := hL 7 (by decide +kernel)
        have mn := hC.2.1.n
        have me := hC.2.1.e
        have m0 := hC.2.1.x0
        have m1 := hC.2.1.x1
        have m2 := hC.2.1.x2
        have m3 := hC.2.1.x3
        have m4 := hC.2.1.x4
        have m5 := hC.2.1.x5
        have m6 := hC.2.1.x6
        have m7 := hC.2.1.x7
        simp [go_sem, hc, hf, e7, mn, me, m0, m1, m2, m3, m4, m5, m6, m7]
        exact ⟨Below.refl _ _, rfl⟩
      refine gSt (gStep_on 4 64 true rfl rfl (by decide +kernel) (fun v w h => h) ?_) ?_
      · intro ρ W hC hc hf hL
        have e9 : ρ (.tmp 9) = .pointer (some ⟨p9, 0, none⟩) := hL 9 (by decide +kernel)
        have kn := hC.2.2.n
        have ke := hC.2.2.e
        have k0_ := hC.2.2.x0
        have k1_ := hC.2.2.x1
        have k2_ := hC.2.2.x2
        have k3_ := hC.2.2.x3
        have k4_ := hC.2.2.x4
        have k5_ := hC.2.2.x5
        have k6_ := hC.2.2.x6
        have k7_ := hC.2.2.x7
        simp [go_sem, hc, hf, e9, kn, ke, k0_, k1_, k2_, k3_, k4_, k5_, k6_, k7_]
        exact ⟨Below.refl _ _, rfl⟩
      refine gSt (gStep_on 4 64 true rfl rfl (by decide +kernel) (fun v w h => h) ?_) ?_
      · intro ρ W hC hc hf hL
        have e65 : ρ (.tmp 65) = .agg #[.bool (false), .int .i64 (ea), .int .u64 (dgl (x) 0 : Nat), .int .u64 (dgl (x) 1 : Nat), .int .u64 (dgl (x) 2 : Nat), .int .u64 (dgl (x) 3 : Nat), .int .u64 (dgl (x) 4 : Nat), .int .u64 (dgl (x) 5 : Nat), .int .u64 (dgl (x) 6 : Nat), .int .u64 (dgl (x) 7 : Nat)] := hL 65 (by decide +kernel)
        have e66 : ρ (.tmp 66) = .agg #[.bool (false), .int .i64 (eb), .int .u64 (dgl (y) 0 : Nat), .int .u64 (dgl (y) 1 : Nat), .int .u64 (dgl (y) 2 : Nat), .int .u64 (dgl (y) 3 : Nat), .int .u64 (dgl (y) 4 : Nat), .int .u64 (dgl (y) 5 : Nat), .int .u64 (dgl (y) 6 : Nat), .int .u64 (dgl (y) 7 : Nat)] := hL 66 (by decide +kernel)
        simp [go_sem, hc, hf, e65, e66]
        refine (HCP.out W).mono ?_
        rintro e w' ⟨rfl, hb⟩
        exact ⟨_, rfl, by first | exact hb | (subst hb; exact Below.refl _ _), rfl⟩
      refine gSt (gStep_on 4 64 true rfl rfl (by decide +kernel) (fun v w h => h) ?_) ?_
      · intro ρ W hC hc hf hL
        have e67 : ρ (.tmp 67) = .int .i64 r := hL 67 (by decide +kernel)
        have l0 := HB1.out
        simp [go_sem, hc, hf, e67, l0]
        exact ⟨Below.refl _ _, rfl⟩
      refine gSt (gStep_on 4 64 true rfl rfl (by decide +kernel) (fun v w h => h) (gRun_move 11 69 (.inl rfl) rfl (by decide +kernel) (fun v w h => h))) ?_
      refine gSt (gStep_on 4 64 true rfl rfl (by decide +kernel) (fun v w h => h) ?_) ?_
      · intro ρ W hC hc hf hL
        have e68 : ρ (.tmp 68) = .bool true := hL 68 (by decide +kernel)
        have e69 : ρ (.tmp 69) = .bool true := hL 69 (by decide +kernel)
        simp [go_sem, hc, hf, e68, e69]
        exact ⟨Below.refl _ _, rfl⟩
      refine gSt (gStep_run rfl (gRun_pickT 64 70 71 _ rfl rfl (by decide +kernel) (by decide +kernel) (fun v w h => h) (fun v w h => h))) ?_
      refine gSt (gStep_run rfl (gRun_move 71 72 (.inl rfl) rfl (by decide +kernel) (fun v w h => h))) ?_
      refine gSt (gStep_on 12 72 true rfl rfl (by decide +kernel) (fun v w h => h) ?_) ?_
      · intro ρ W hC hc hf hL
        have e7 : ρ (.tmp 7) = .pointer (some ⟨p7, 0, none⟩) := hL 7 (by decide +kernel)
        have mn := hC.2.1.n
        have me := hC.2.1.e
        have m0 := hC.2.1.x0
        have m1 := hC.2.1.x1
        have m2 := hC.2.1.x2
        have m3 := hC.2.1.x3
        have m4 := hC.2.1.x4
        have m5 := hC.2.1.x5
        have m6 := hC.2.1.x6
        have m7 := hC.2.1.x7
        simp [go_sem, hc, hf, e7, mn, me, m0, m1, m2, m3, m4, m5, m6, m7]
        exact ⟨Below.refl _ _, rfl⟩
      refine gSt (gStep_on 12 72 true rfl rfl (by decide +kernel) (fun v w h => h) ?_) ?_
      · intro ρ W hC hc hf hL
        have e9 : ρ (.tmp 9) = .pointer (some ⟨p9, 0, none⟩) := hL 9 (by decide +kernel)
        have kn := hC.2.2.n
        have ke := hC.2.2.e
        have k0_ := hC.2.2.x0
        have k1_ := hC.2.2.x1
        have k2_ := hC.2.2.x2
        have k3_ := hC.2.2.x3
        have k4_ := hC.2.2.x4
        have k5_ := hC.2.2.x5
        have k6_ := hC.2.2.x6
        have k7_ := hC.2.2.x7
        simp [go_sem, hc, hf, e9, kn, ke, k0_, k1_, k2_, k3_, k4_, k5_, k6_, k7_]
        exact ⟨Below.refl _ _, rfl⟩
      refine gSt (gStep_on 12 72 true rfl rfl (by decide +kernel) (fun v w h => h) ?_) ?_
      · intro ρ W hC hc hf hL
        have e73 : ρ (.tmp 73) = .agg #[.bool (false), .int .i64 (ea), .int .u64 (dgl (x) 0 : Nat), .int .u64 (dgl (x) 1 : Nat), .int .u64 (dgl (x) 2 : Nat), .int .u64 (dgl (x) 3 : Nat), .int .u64 (dgl (x) 4 : Nat), .int .u64 (dgl (x) 5 : Nat), .int .u64 (dgl (x) 6 : Nat), .int .u64 (dgl (x) 7 : Nat)] := hL 73 (by decide +kernel)
        have e74 : ρ (.tmp 74) = .agg #[.bool (false), .int .i64 (eb), .int .u64 (dgl (y) 0 : Nat), .int .u64 (dgl (y) 1 : Nat), .int .u64 (dgl (y) 2 : Nat), .int .u64 (dgl (y) 3 : Nat), .int .u64 (dgl (y) 4 : Nat), .int .u64 (dgl (y) 5 : Nat), .int .u64 (dgl (y) 6 : Nat), .int .u64 (dgl (y) 7 : Nat)] := hL 74 (by decide +kernel)
        simp [go_sem, hc, hf, e73, e74]
        refine (HCP.out W).mono ?_
        rintro e w' ⟨rfl, hb⟩
        exact ⟨_, rfl, by first | exact hb | (subst hb; exact Below.refl _ _), rfl⟩
      refine gSt (gStep_on 12 72 true rfl rfl (by decide +kernel) (fun v w h => h) ?_) ?_
      · intro ρ W hC hc hf hL
        have e75 : ρ (.tmp 75) = .int .i64 r := hL 75 (by decide +kernel)
        have l0 := HB2.out
        simp [go_sem, hc, hf, e75, l0, -beq_eq_false_iff_ne, -beq_iff_eq]
        exact ⟨Below.refl _ _, rfl⟩
      refine gSt (gStep_on 12 72 true rfl rfl (by decide +kernel) (fun v w h => h) ?_) ?_
      · intro ρ W hC hc hf hL
        have e4 : ρ (.tmp 4) = .pointer (some ⟨w.heap.size, 0, none⟩) := hL 4 (by decide +kernel)
        have l0 := hC.1.wa.h
        have l1 := hC.1.wa.l
        simp [go_sem, hc, hf, e4, l0, l1]
        exact ⟨Below.refl _ _, rfl⟩
      refine gSt (gStep_on 12 72 true rfl rfl (by decide +kernel) (fun v w h => h) ?_) ?_
      · intro ρ W hC hc hf hL
        have e5 : ρ (.tmp 5) = .pointer (some ⟨w.heap.size + 1, 0, none⟩) := hL 5 (by decide +kernel)
        have l0 := hC.1.wb.h
        have l1 := hC.1.wb.l
        simp [go_sem, hc, hf, e5, l0, l1]
        exact ⟨Below.refl _ _, rfl⟩
      refine gSt (gStep_on 12 72 true rfl rfl (by decide +kernel) (fun v w h => h) ?_) ?_
      · intro ρ W hC hc hf hL
        have e77 : ρ (.tmp 77) = .agg #[.int .u64 (dgl (c) 1 : Nat), .int .u64 (dgl (c) 0 : Nat)] := hL 77 (by decide +kernel)
        have e78 : ρ (.tmp 78) = .agg #[.int .u64 (dgl (d) 1 : Nat), .int .u64 (dgl (d) 0 : Nat)] := hL 78 (by decide +kernel)
        have l0 := HWE.out
        simp [go_sem, hc, hf, e77, e78, l0]
        exact ⟨Below.refl _ _, rfl⟩
      refine gSt (gStep_on 12 72 true rfl rfl (by decide +kernel) (fun v w h => h) ?_) ?_
      · intro ρ W hC hc hf hL
        have e76 : ρ (.tmp 76) = .bool ga := hL 76 (by decide +kernel)
        have e79 : ρ (.tmp 79) = .bool ga := hL 79 (by decide +kernel)
        simp [go_sem, hc, hf, e76, e79]
        exact ⟨Below.refl _ _, rfl⟩
      refine gSt (gStep_run rfl (gRun_pickT 72 80 81 _ rfl rfl (by decide +kernel) (by decide +kernel) (fun v w h => h) (fun v w h => h))) ?_
      refine gSt (gStep_run rfl (gRun_move 81 82 (.inl rfl) rfl (by decide +kernel) (fun v w h => h))) ?_
      refine gSt (gStep_on 22 82 true rfl rfl (by decide +kernel) (fun v w h => h) ?_) ?_
      · intro ρ W hC hc hf hL
        simp [go_sem, hc, hf]
        refine (awake7_any _ hC.1.g).mono ?_
        rintro e w' ⟨rfl, hb⟩
        exact ⟨_, rfl, by first | exact hb | (subst hb; exact Below.refl _ _), rfl⟩
      refine gSt (gStep_run rfl (gRun_pickT 82 83 84 _ rfl rfl (by decide +kernel) (by decide +kernel) (fun v w h => h) (fun v w h => h))) ?_
      refine gSt (gStep_run rfl (gRun_move 84 6 (.inr rfl) rfl (by decide +kernel) (fun v w h => h))) ?_
      exact gSt0
    · intro W hC
      refine gFi 60 rfl ?_
      rintro _ rfl
      refine gFi 61 rfl ?_
      rintro _ rfl
      refine gFi 62 rfl ?_
      rintro _ rfl
      refine gFi 63 rfl ?_
      rintro _ rfl
      refine gFi 64 rfl ?_
      rintro _ rfl
      refine gFi 65 rfl ?_
      rintro _ rfl
      refine gFi 66 rfl ?_
      rintro _ rfl
      refine gFi 67 rfl ?_
      rintro _ rfl
      refine gFi 68 rfl ?_
      rintro _ rfl
      refine gFi 69 rfl ?_
      rintro _ rfl
      refine gFi 70 rfl ?_
      rintro _ rfl
      refine gFi 71 rfl ?_
      rintro _ rfl
      refine gFi 72 rfl ?_
      rintro _ rfl
      refine gFi 73 rfl ?_
      rintro _ rfl
      refine gFi 74 rfl ?_
      rintro _ rfl
      refine gFi 75 rfl ?_
      rintro _ rfl
      refine gFi 76 rfl ?_
      rintro _ rfl
      refine gFi 77 rfl ?_
      rintro _ rfl
      refine gFi 78 rfl ?_
      rintro _ rfl
      refine gFi 79 rfl ?_
      rintro _ rfl
      refine gFi 80 rfl ?_
      rintro _ rfl
      refine gFi 81 rfl ?_
      rintro _ rfl
      refine gFi 82 rfl ?_
      rintro _ rfl
      refine gFi 83 rfl ?_
      rintro _ rfl
      refine gFi 84 rfl ?_
      rintro _ rfl
      refine gFi 6 rfl ?_
      rintro _ rfl
      refine gFi0 ?_
      simp only [List.drop_succ_cons, List.drop_zero, Act.put, List.setIfInBounds_toArray, List.set_cons_succ, List.set_cons_zero]
      have HB := hide hC.1.bel
      clear hC h7
      go_wp2
      go_ret
      exact ⟨rfl, HB.out⟩

set_option maxHeartbeats 4000000 in
theorem unpackOrder_E (f k1 k2 ea eb r : Int) (a b c d x y : Nat) (ga : Bool)
    (HK1 : Hid (∀ w, Calls Tryd.prog 12 #[.int .i64 f, .agg #[.int .u64 (dgl (a) 1 : Nat), .int .u64 (dgl (a) 0 : Nat)]] w fun e w' => e = .returned (.int .i64 k1) ∧ Below w.heap.size w w'))
    (h1 : ¬ k1 < 4)
    (HK2 : Hid (∀ w, Calls Tryd.prog 12 #[.int .i64 f, .agg #[.int .u64 (dgl (b) 1 : Nat), .int .u64 (dgl (b) 0 : Nat)]] w fun e w' => e = .returned (.int .i64 k2) ∧ Below w.heap.size w w'))
    (h2 : ¬ k2 < 4)
    (HA1 : Hid (∀ w, Calls Tryd.prog 25 #[.int .i64 f, .agg #[.int .u64 (dgl (a) 1 : Nat), .int .u64 (dgl (a) 0 : Nat)], .bool false] w fun e w' => e = .returned (.agg #[.int .u64 (dgl (c) 1 : Nat), .int .u64 (dgl (c) 0 : Nat)]) ∧ Below w.heap.size w w'))
    (HA2 : Hid (∀ w, Calls Tryd.prog 25 #[.int .i64 f, .agg #[.int .u64 (dgl (b) 1 : Nat), .int .u64 (dgl (b) 0 : Nat)], .bool false] w fun e w' => e = .returned (.agg #[.int .u64 (dgl (d) 1 : Nat), .int .u64 (dgl (d) 0 : Nat)]) ∧ Below w.heap.size w w'))
    (HV1 : Hid (∀ w, FmtG w → Calls Tryd.prog 34 #[.int .i64 f, .agg #[.int .u64 (dgl (c) 1 : Nat), .int .u64 (dgl (c) 0 : Nat)]] w fun e w' => e = .returned (.tuple #[.agg #[.bool (false), .int .i64 (ea), .int .u64 (dgl (x) 0 : Nat), .int .u64 (dgl (x) 1 : Nat), .int .u64 (dgl (x) 2 : Nat), .int .u64 (dgl (x) 3 : Nat), .int .u64 (dgl (x) 4 : Nat), .int .u64 (dgl (x) 5 : Nat), .int .u64 (dgl (x) 6 : Nat), .int .u64 (dgl (x) 7 : Nat)], .bool true]) ∧ Below w.heap.size w w'))
    (HV2 : Hid (∀ w, FmtG w → Calls Tryd.prog 34 #[.int .i64 f, .agg #[.int .u64 (dgl (d) 1 : Nat), .int .u64 (dgl (d) 0 : Nat)]] w fun e w' => e = .returned (.tuple #[.agg #[.bool (false), .int .i64 (eb), .int .u64 (dgl (y) 0 : Nat), .int .u64 (dgl (y) 1 : Nat), .int .u64 (dgl (y) 2 : Nat), .int .u64 (dgl (y) 3 : Nat), .int .u64 (dgl (y) 4 : Nat), .int .u64 (dgl (y) 5 : Nat), .int .u64 (dgl (y) 6 : Nat), .int .u64 (dgl (y) 7 : Nat)], .bool true]) ∧ Below w.heap.size w w'))
    (HCP : Hid (∀ w, Calls Tryd.prog 44 #[.agg #[.bool (false), .int .i64 (ea), .int .u64 (dgl (x) 0 : Nat), .int .u64 (dgl (x) 1 : Nat), .int .u64 (dgl (x) 2 : Nat), .int .u64 (dgl (x) 3 : Nat), .int .u64 (dgl (x) 4 : Nat), .int .u64 (dgl (x) 5 : Nat), .int .u64 (dgl (x) 6 : Nat), .int .u64 (dgl (x) 7 : Nat)], .agg #[.bool (false), .int .i64 (eb), .int .u64 (dgl (y) 0 : Nat), .int .u64 (dgl (y) 1 : Nat), .int .u64 (dgl (y) 2 : Nat), .int .u64 (dgl (y) 3 : Nat), .int .u64 (dgl (y) 4 : Nat), .int .u64 (dgl (y) 5 : Nat), .int .u64 (dgl (y) 6 : Nat), .int .u64 (dgl (y) 7 : Nat)]] w fun e w' => e = .returned (.int .i64 r) ∧ Below w.heap.size w w'))
    (hlt : ¬ ((dgl c 1 : Nat) : Int) < ((dgl d 1 : Nat) : Int)) (heq : (((dgl c 1 : Nat) : Int) == ((dgl d 1 : Nat) : Int)) = true)
    (HB1 : Hid (decide (r < 0) = (decide (dgl c 1 < dgl d 1) || decide (dgl c 0 < dgl d 0)))) (HB2 : Hid ((r == 0) = ga)) (HWE : Hid (∀ w, (Op.equalIn 10000 24 (.agg #[.int .u64 (dgl (c) 1 : Nat), .int .u64 (dgl (c) 0 : Nat)]) (.agg #[.int .u64 (dgl (d) 1 : Nat), .int .u64 (dgl (d) 0 : Nat)])).run Tryd.prog w = .ok ga w)) (w : World) (hg : FmtG w) :
    Calls Tryd.prog 11 #[.int .i64 f, .agg #[.int .u64 (dgl (a) 1 : Nat), .int .u64 (dgl (a) 0 : Nat)], .agg #[.int .u64 (dgl (b) 1 : Nat), .int .u64 (dgl (b) 0 : Nat)]] w fun e w' => e = .returned (.bool true) ∧ Below w.heap.size w w' := by
  have HS := hide (orSt_start a b w hg)
  clear hg
  go_enter Tryd.func11, Tryd.ntmps11
  go_upto_region 1 with fail
  refine wp_gen (fun W => OrSt a b w W) HS.out ?_
  clear HS
  rintro W1 g1
  have HS := hide g1
  clear g1
  have l0 := HS.out.wa.h
  have l1 := HS.out.wa.l
  go_wp2_with fail
  refine (HK1.out _).mono ?_
  rintro e w1 ⟨rfl, hb1⟩
  replace HS := hide (HS.out.below hb1)
  clear hb1 l0 l1
  have l0 := HS.out.wb.h
  have l1 := HS.out.wb.l
  go_wp2_with fail
  refine (HK2.out _).mono ?_
  rintro e w2 ⟨rfl, hb2⟩
  replace HS := hide (HS.out.below hb2)
  clear hb2 l0 l1
  go_upto_region 3 with fail
  refine wp_gen (fun W => OrSt a b w W) HS.out ?_
  clear HS
  rintro W3 h3
  refine wp_region_storeK 8 [6, 7] [23, 24, 25, 26, 27, 28] (fun bs => [(23, .val (.int .i64 f)), (24, .val (.agg #[.int .u64 (dgl (a) 1 : Nat), .int .u64 (dgl (a) 0 : Nat)])), (25, .val (.agg #[.int .u64 (dgl (c) 1 : Nat), .int .u64 (dgl (c) 0 : Nat)])), (26, .val (.int .i64 f)), (27, .val (.agg #[.int .u64 (dgl (b) 1 : Nat), .int .u64 (dgl (b) 0 : Nat)])), (28, .val (.agg #[.int .u64 (dgl (d) 1 : Nat), .int .u64 (dgl (d) 0 : Nat)]))])
    (fun bs W => ∀ p q, bs.headD false = p → bs.tail.headD false = q → OrSt (bif p then c else a) (bif q then d else b) w W) (fun bs => rfl) mixedOk (by kernel_rfl) (by kernel_rfl) (by kernel_rfl) (fun p q hp hq => by subst hp hq; exact h3.below (Below.refl _ _).drew) (fun bs W W' h hb p q hp hq => (h p q hp hq).below hb) ?_ ?_
  · refine kSt rfl (fun φ hφ => gStep_run rfl (gRun_move 0 23 (.inl rfl) rfl (by decide +kernel) (fun v w h => h))) ?_
    refine kSt rfl (fun φ hφ => gStep_run rfl ?_) ?_
    · intro ρ W hC hc hf hL
      have e4 : ρ (.tmp 4) = .pointer (some ⟨w.heap.size, 0, none⟩) := hL 4 (by decide +kernel)
      have hφ0 : φ 6 = false := hφ 6 (by simp) (by kernel_rfl)
      have hD : OrSt a (bif φ 7 then d else b) w W := hC false (φ 7) hφ0 rfl
      have l0 := hD.wa.h
      have l1 := hD.wa.l
      simp [go_sem, hc, hf, e4, l0, l1]
      exact ⟨Below.refl _ _, rfl⟩
    refine kSt rfl (fun φ hφ => gStep_run rfl ?_) ?_
    · intro ρ W hC hc hf hL
      have e23 : ρ (.tmp 23) = .int .i64 f := hL 23 (by decide +kernel)
      have e24 : ρ (.tmp 24) = .agg #[.int .u64 (dgl (a) 1 : Nat), .int .u64 (dgl (a) 0 : Nat)] := hL 24 (by decide +kernel)
      simp [go_sem, hc, hf, e23, e24]
      refine (HA1.out W).mono ?_
      rintro e w' ⟨rfl, hb⟩
      exact ⟨_, rfl, by first | exact hb | (subst hb; exact Below.refl _ _), rfl⟩
    refine kSt rfl (fun φ hφ => gStep_run rfl (gRun_move 0 26 (.inl rfl) rfl (by decide +kernel) (fun v w h => h))) ?_
    refine kSt rfl (fun φ hφ => gStep_run rfl ?_) ?_
    · intro ρ W hC hc hf hL
      have e5 : ρ (.tmp 5) = .pointer (some ⟨w.heap.size + 1, 0, none⟩) := hL 5 (by decide +kernel)
      have hφ0 : φ 7 = false := hφ 7 (by simp) (by kernel_rfl)
      have hD : OrSt (bif φ 6 then c else a) b w W := hC (φ 6) false rfl hφ0
      have l0 := hD.wb.h
      have l1 := hD.wb.l
      simp [go_sem, hc, hf, e5, l0, l1]
      exact ⟨Below.refl _ _, rfl⟩
    refine kSt rfl (fun φ hφ => gStep_run rfl ?_) ?_
    · intro ρ W hC hc hf hL
      have e26 : ρ (.tmp 26) = .int .i64 f := hL 26 (by decide +kernel)
      have e27 : ρ (.tmp 27) = .agg #[.int .u64 (dgl (b) 1 : Nat), .int .u64 (dgl (b) 0 : Nat)] := hL 27 (by decide +kernel)
      simp [go_sem, hc, hf, e26, e27]
      refine (HA2.out W).mono ?_
      rintro e w' ⟨rfl, hb⟩
      exact ⟨_, rfl, by first | exact hb | (subst hb; exact Below.refl _ _), rfl⟩
    refine kStS rfl ⟨rfl, rfl, ?_⟩ ?_
    · intro φ ρ W hφ hC hc hL
      have e4 : ρ (.tmp 4) = .pointer (some ⟨w.heap.size, 0, none⟩) := hL 4 (by decide +kernel)
      have e25 : ρ (.tmp 25) = .agg #[.int .u64 (dgl (c) 1 : Nat), .int .u64 (dgl (c) 0 : Nat)] := hL 25 (by decide +kernel)
      have hD : OrSt a (bif φ 7 then d else b) w W := hC false (φ 7) hφ rfl
      have l0 := hD.wa.h
      have l1 := hD.wa.l
      have hz := hD.za
      have hl := hD.wa.lt
      refine gUpon_of ((W.setCell ⟨w.heap.size, 0, none⟩ (.int .u64 (dgl c 1 : Nat))).setCell ⟨w.heap.size, 1, none⟩ (.int .u64 (dgl c 0 : Nat))) ?_ (fun _ => ?_)
      · simp [go_sem, hc, e4, e25, l0, l1, hz, hl, gUpon]
      refine ⟨fun p q hp hq => ?_, fun t => (tbl_imp rfl (fun _ => val_imp) (tbl_imp rfl (fun _ => val_imp) (tbl_imp rfl (fun _ => val_imp) (tbl_imp rfl (fun _ => val_imp) (tbl_imp rfl (fun _ => val_imp) (tbl_imp rfl (fun _ => val_imp) tbl_nil_imp))))))⟩
      have hp2 : (φ 6 || true) = p := hp
      have hq2 : (φ 7 || false) = q := hq
      rw [Bool.or_true] at hp2
      rw [Bool.or_false] at hq2
      subst hp2 hq2
      exact hD.setA c
    refine kStS rfl ⟨rfl, rfl, ?_⟩ ?_
    · intro φ ρ W hφ hC hc hL
      have e5 : ρ (.tmp 5) = .pointer (some ⟨w.heap.size + 1, 0, none⟩) := hL 5 (by decide +kernel)
      have e28 : ρ (.tmp 28) = .agg #[.int .u64 (dgl (d) 1 : Nat), .int .u64 (dgl (d) 0 : Nat)] := hL 28 (by decide +kernel)
      have hD : OrSt (bif φ 6 then c else a) b w W := hC (φ 6) false rfl hφ
      have l0 := hD.wb.h
      have l1 := hD.wb.l
      have hz := hD.zb
      have hl := hD.wb.lt
      refine gUpon_of ((W.setCell ⟨w.heap.size + 1, 0, none⟩ (.int .u64 (dgl d 1 : Nat))).setCell ⟨w.heap.size + 1, 1, none⟩ (.int .u64 (dgl d 0 : Nat))) ?_ (fun _ => ?_)
      · simp [go_sem, hc, e5, e28, l0, l1, hz, hl, gUpon]
      refine ⟨fun p q hp hq => ?_, fun t => (tbl_imp rfl (fun _ => val_imp) (tbl_imp rfl (fun _ => val_imp) (tbl_imp rfl (fun _ => val_imp) (tbl_imp rfl (fun _ => val_imp) (tbl_imp rfl (fun _ => val_imp) (tbl_imp rfl (fun _ => val_imp) tbl_nil_imp))))))⟩
      have hp2 : (φ 6 || false) = p := hp
      have hq2 : (φ 7 || true) = q := hq
      rw [Bool.or_false] at hp2
      rw [Bool.or_true] at hq2
      subst hp2 hq2
      exact hD.setB d
    exact kSt0
  · intro W hC
    refine gFi 23 rfl ?_
    rintro _ rfl
    refine gFi 24 rfl ?_
    rintro _ rfl
    refine gFi 25 rfl ?_
    rintro _ rfl
    refine gFi 26 rfl ?_
    rintro _ rfl
    refine gFi 27 rfl ?_
    rintro _ rfl
    refine gFi 28 rfl ?_
    rintro _ rfl
    refine gFiN rfl ?_
    refine gFiN rfl ?_
    refine gFi0 ?_
    simp only [List.drop_succ_cons, List.drop_zero, Act.put, List.setIfInBounds_toArray, List.set_cons_succ, List.set_cons_zero]
    have HS : Hid (OrSt c d w W) := hC true true rfl rfl
    clear hC h3
    have l0 := HS.out.wa.h
    have l1 := HS.out.wa.l
    go_wp2_with fail
    refine (HV1.out _ HS.out.g).mono ?_
    rintro e w4 ⟨rfl, hb4⟩
    replace HS := hide (HS.out.below hb4)
    clear hb4 l0 l1
    go_upto_region 5 with fail
    refine wp_gen (fun W => OrSt c d w W ∧ NB W w4.heap.size false ea x) ⟨HS.out.below (below_allocs _ _), nb_new _ _ _ _ _⟩ ?_
    clear HS
    generalize w4.heap.size = p7
    rintro W5 ⟨g1, g2⟩
    have HS := hide g1
    have HN := hide g2
    clear g1 g2
    have l0 := HS.out.wb.h
    have l1 := HS.out.wb.l
    go_wp2_with fail
    refine (HV2.out _ HS.out.g).mono ?_
    rintro e w5 ⟨rfl, hb5⟩
    replace HS := hide (HS.out.below hb5)
    replace HN := hide (HN.out.below hb5)
    clear hb5 l0 l1
    go_upto_region 6 with fail
    refine wp_gen (fun W => OrSt c d w W ∧ NB W p7 false ea x ∧ NB W w5.heap.size false eb y) ⟨HS.out.below (below_allocs _ _), HN.out.below (below_allocs _ _), nb_new _ _ _ _ _⟩ ?_
    clear HS HN
    generalize w5.heap.size = p9
    rintro W6 g
    have HG := hide g
    have l0 := g.1.wa.h
    have l1 := g.1.wa.l
    have l2 := g.1.wb.h
    have l3 := g.1.wb.l
    clear g
    go_upto_region 7 with fail
    refine wp_gen (fun W => OrSt c d w W ∧ NB W p7 false ea x ∧ NB W p9 false eb y) HG.out ?_
    clear HG l0 l1 l2 l3
    rintro W7 h7
    refine wp_region_grow 26 [(60, .val (.bool true)), (61, .val (.bool true)), (62, .val (.bool true)), (63, .val (.bool true)), (64, .val (.bool true)), (65, .val (.agg #[.bool (false), .int .i64 (ea), .int .u64 (dgl (x) 0 : Nat), .int .u64 (dgl (x) 1 : Nat), .int .u64 (dgl (x) 2 : Nat), .int .u64 (dgl (x) 3 : Nat), .int .u64 (dgl (x) 4 : Nat), .int .u64 (dgl (x) 5 : Nat), .int .u64 (dgl (x) 6 : Nat), .int .u64 (dgl (x) 7 : Nat)])), (66, .val (.agg #[.bool (false), .int .i64 (eb), .int .u64 (dgl (y) 0 : Nat), .int .u64 (dgl (y) 1 : Nat), .int .u64 (dgl (y) 2 : Nat), .int .u64 (dgl (y) 3 : Nat), .int .u64 (dgl (y) 4 : Nat), .int .u64 (dgl (y) 5 : Nat), .int .u64 (dgl (y) 6 : Nat), .int .u64 (dgl (y) 7 : Nat)])), (67, .val (.int .i64 r)), (68, .val (.bool (decide (dgl c 1 < dgl d 1) || decide (dgl c 0 < dgl d 0)))), (69, .val (.bool (decide (dgl c 1 < dgl d 1) || decide (dgl c 0 < dgl d 0)))), (70, .val (.bool true)), (71, .val (.bool true)), (72, .val (.bool true)), (73, .val (.agg #[.bool (false), .int .i64 (ea), .int .u64 (dgl (x) 0 : Nat), .int .u64 (dgl (x) 1 : Nat), .int .u64 (dgl (x) 2 : Nat), .int .u64 (dgl (x) 3 : Nat), .int .u64 (dgl (x) 4 : Nat), .int .u64 (dgl (x) 5 : Nat), .int .u64 (dgl (x) 6 : Nat), .int .u64 (dgl (x) 7 : Nat)])), (74, .val (.agg #[.bool (false), .int .i64 (eb), .int .u64 (dgl (y) 0 : Nat), .int .u64 (dgl (y) 1 : Nat), .int .u64 (dgl (y) 2 : Nat), .int .u64 (dgl (y) 3 : Nat), .int .u64 (dgl (y) 4 : Nat), .int .u64 (dgl (y) 5 : Nat), .int .u64 (dgl (y) 6 : Nat), .int .u64 (dgl (y) 7 : Nat)])), (75, .val (.int .i64 r)), (76, .val (.bool ga)), (77, .val (.agg #[.int .u64 (dgl (c) 1 : Nat), .int .u64 (dgl (c) 0 : Nat)])), (78, .val (.agg #[.int .u64 (dgl (d) 1 : Nat), .int .u64 (dgl (d) 0 : Nat)])), (79, .val (.bool ga)), (80, .val (.bool true)), (81, .val (.bool true)), (82, .val (.bool true)), (83, .val (.bool true)), (84, .val (.bool true)), (6, .val (.bool true))]
      (fun W => OrSt c d w W ∧ NB W p7 false ea x ∧ NB W p9 false eb y) mixedOk (by kernel_rfl) (by kernel_rfl) (⟨h7.1.below (Below.refl _ _).drew, h7.2.1.below (Below.refl _ _).drew, h7.2.2.below (Below.refl _ _).drew⟩) (fun W W' h hb => ⟨h.1.below hb, h.2.1.below hb, h.2.2.below hb⟩) ?_ ?_
    · refine gSt (gStep_run rfl (gRun_move 8 60 (.inl rfl) rfl (by decide +kernel) (fun v w h => h))) ?_
      refine gSt (gStep_run rfl (gRun_move 60 61 (.inl rfl) rfl (by decide +kernel) (fun v w h => h))) ?_
      refine gSt (gStep_on 1 61 true rfl rfl (by decide +kernel) (fun v w h => h) (gRun_move 10 62 (.inl rfl) rfl (by decide +kernel) (fun v w h => h))) ?_
      refine gSt (gStep_run rfl (gRun_pickT 61 62 63 _ rfl rfl (by decide +kernel) (by decide +kernel) (fun v w h => h) (fun v w h => h))) ?_
      refine gSt (gStep_run rfl (gRun_move 63 64 (.inl rfl) rfl (by decide +kernel) (fun v w h => h))) ?_
      refine gSt (gStep_on 4 64 true rfl rfl (by decide +kernel) (fun v w h => h) ?_) ?_
      · intro ρ W hC hc hf hL
        have e7 : ρ (.tmp 7) = .pointer (some ⟨p7, 0, none⟩) := hL 7 (by decide +kernel)
        have mn := hC.2.1.n
        have me := hC.2.1.e
        have m0 := hC.2.1.x0
        have m1 := hC.2.1.x1
        have m2 := hC.2.1.x2
        have m3 := hC.2.1.x3
        have m4 := hC.2.1.x4
        have m5 := hC.2.1.x5
        have m6 := hC.2.1.x6
        have m7 := hC.2.1.x7
        simp [go_sem, hc, hf, e7, mn, me, m0, m1, m2, m3, m4, m5, m6, m7]
        exact ⟨Below.refl _ _, rfl⟩
      refine gSt (gStep_on 4 64 true rfl rfl (by decide +kernel) (fun v w h => h) ?_) ?_
      · intro ρ W hC hc hf hL
        have e9 : ρ (.tmp 9) = .pointer (some ⟨p9, 0, none⟩) := hL 9 (by decide +kernel)
        have kn := hC.2.2.n
        have ke := hC.2.2.e
        have k0_ := hC.2.2.x0
        have k1_ := hC.2.2.x1
        have k2_ := hC.2.2.x2
        have k3_ := hC.2.2.x3
        have k4_ := hC.2.2.x4
        have k5_ := hC.2.2.x5
        have k6_ := hC.2.2.x6
        have k7_ := hC.2.2.x7
        simp [go_sem, hc, hf, e9, kn, ke, k0_, k1_, k2_, k3_, k4_, k5_, k6_, k7_]
        exact ⟨Below.refl _ _, rfl⟩
      refine gSt (gStep_on 4 64 true rfl rfl (by decide +kernel) (fun v w h => h) ?_) ?_
      · intro ρ W hC hc hf hL
        have e65 : ρ (.tmp 65) = .agg #[.bool (false), .int .i64 (ea), .int .u64 (dgl (x) 0 : Nat), .int .u64 (dgl (x) 1 : Nat), .int .u64 (dgl (x) 2 : Nat), .int .u64 (dgl (x) 3 : Nat), .int .u64 (dgl (x) 4 : Nat), .int .u64 (dgl (x) 5 : Nat), .int .u64 (dgl (x) 6 : Nat), .int .u64 (dgl (x) 7 : Nat)] := hL 65 (by decide +kernel)
        have e66 : ρ (.tmp 66) = .agg #[.bool (false), .int .i64 (eb), .int .u64 (dgl (y) 0 : Nat), .int .u64 (dgl (y) 1 : Nat), .int .u64 (dgl (y) 2 : Nat), .int .u64 (dgl (y) 3 : Nat), .int .u64 (dgl (y) 4 : Nat), .int .u64 (dgl (y) 5 : Nat), .int .u64 (dgl (y) 6 : Nat), .int .u64 (dgl (y) 7 : Nat)] := hL 66 (by decide +kernel)
        simp [go_sem, hc, hf, e65, e66]
        refine (HCP.out W).mono ?_
        rintro e w' ⟨rfl, hb⟩
        exact ⟨_, rfl, by first | exact hb | (subst hb; exact Below.refl _ _), rfl⟩
      refine gSt (gStep_on 4 64 true rfl rfl (by decide +kernel) (fun v w h => h) ?_) ?_
      · intro ρ W hC hc hf hL
        have e67 : ρ (.tmp 67) = .int .i64 r := hL 67 (by decide +kernel)
        have l0 := HB1.out
        simp [go_sem, hc, hf, e67, l0]
        exact ⟨Below.refl _ _, rfl⟩
      refine gSt (gStep_on 4 64 true rfl rfl (by decide +kernel) (fun v w h => h) (gRun_move 11 69 (.inl rfl) rfl (by decide +kernel) (fun v w h => h))) ?_
      refine gSt (gStep_on 4 64 true rfl rfl (by decide +kernel) (fun v w h => h) ?_) ?_
      · intro ρ W hC hc hf hL
        have e68 : ρ (.tmp 68) = .bool (decide (dgl c 1 < dgl d 1) || decide (dgl c 0 < dgl d 0)) := hL 68 (by decide +kernel)
        have e69 : ρ (.tmp 69) = .bool (decide (dgl c 1 < dgl d 1) || decide (dgl c 0 < dgl d 0)) := hL 69 (by decide +kernel)
        simp [go_sem, hc, hf, e68, e69]
        exact ⟨Below.refl _ _, rfl⟩
      refine gSt (gStep_run rfl (gRun_pickT 64 70 71 _ rfl rfl (by decide +kernel) (by decide +kernel) (fun v w h => h) (fun v w h => h))) ?_
      refine gSt (gStep_run rfl (gRun_move 71 72 (.inl rfl) rfl (by decide +kernel) (fun v w h => h))) ?_
      refine gSt (gStep_on 12 72 true rfl rfl (by decide +kernel) (fun v w h => h) ?_) ?_
      · intro ρ W hC hc hf hL
        have e7 : ρ (.tmp 7) = .pointer (some ⟨p7, 0, none⟩) := hL 7 (by decide +kernel)
        have mn := hC.2.1.n
        have me := hC.2.1.e
        have m0 := hC.2.1.x0
        have m1 := hC.2.1.x1
        have m2 := hC.2.1.x2
        have m3 := hC.2.1.x3
        have m4 := hC.2.1.x4
        have m5 := hC.2.1.x5
        have m6 := hC.2.1.x6
        have m7 := hC.2.1.x7
        simp [go_sem, hc, hf, e7, mn, me, m0, m1, m2, m3, m4, m5, m6, m7]
        exact ⟨Below.refl _ _, rfl⟩
      refine gSt (gStep_on 12 72 true rfl rfl (by decide +kernel) (fun v w h => h) ?_) ?_
      · intro ρ W hC hc hf hL
        have e9 : ρ (.tmp 9) = .pointer (some ⟨p9, 0, none⟩) := hL 9 (by decide +kernel)
        have kn := hC.2.2.n
        have ke := hC.2.2.e
        have k0_ := hC.2.2.x0
        have k1_ := hC.2.2.x1
        have k2_ := hC.2.2.x2
        have k3_ := hC.2.2.x3
        have k4_ := hC.2.2.x4
        have k5_ := hC.2.2.x5
        have k6_ := hC.2.2.x6
        have k7_ := hC.2.2.x7
        simp [go_sem, hc, hf, e9, kn, ke, k0_, k1_, k2_, k3_, k4_, k5_, k6_, k7_]
        exact ⟨Below.refl _ _, rfl⟩
      refine gSt (gStep_on 12 72 true rfl rfl (by decide +kernel) (fun v w h => h) ?_) ?_
      · intro ρ W hC hc hf hL
        have e73 : ρ (.tmp 73) = .agg #[.bool (false), .int .i64 (ea), .int .u64 (dgl (x) 0 : Nat), .int .u64 (dgl (x) 1 : Nat), .int .u64 (dgl (x) 2 : Nat), .int .u64 (dgl (x) 3 : Nat), .int .u64 (dgl (x) 4 : Nat), .int .u64 (dgl (x) 5 : Nat), .int .u64 (dgl (x) 6 : Nat), .int .u64 (dgl (x) 7 : Nat)] := hL 73 (by decide +kernel)
        have e74 : ρ (.tmp 74) = .agg #[.bool (false), .int .i64 (eb), .int .u64 (dgl (y) 0 : Nat), .int .u64 (dgl (y) 1 : Nat), .int .u64 (dgl (y) 2 : Nat), .int .u64 (dgl (y) 3 : Nat), .int .u64 (dgl (y) 4 : Nat), .int .u64 (dgl (y) 5 : Nat), .int .u64 (dgl (y) 6 : Nat), .int .u64 (dgl (y) 7 : Nat)] := hL 74 (by decide +kernel)
        simp [go_sem, hc, hf, e73, e74]
        refine (HCP.out W).mono ?_
        rintro e w' ⟨rfl, hb⟩
        exact ⟨_, rfl, by first | exact hb | (subst hb; exact Below.refl _ _), rfl⟩
      refine gSt (gStep_on 12 72 true rfl rfl (by decide +kernel) (fun v w h => h) ?_) ?_
      · intro ρ W hC hc hf hL
        have e75 : ρ (.tmp 75) = .int .i64 r := hL 75 (by decide +kernel)
        have l0 := HB2.out
        simp [go_sem, hc, hf, e75, l0, -beq_eq_false_iff_ne, -beq_iff_eq]
        exact ⟨Below.refl _ _, rfl⟩
      refine gSt (gStep_on 12 72 true rfl rfl (by decide +kernel) (fun v w h => h) ?_) ?_
      · intro ρ W hC hc hf hL
        have e4 : ρ (.tmp 4) = .pointer (some ⟨w.heap.size, 0, none⟩) := hL 4 (by decide +kernel)
        have l0 := hC.1.wa.h
        have l1 := hC.1.wa.l
        simp [go_sem, hc, hf, e4, l0, l1]
        exact ⟨Below.refl _ _, rfl⟩
      refine gSt (gStep_on 12 72 true rfl rfl (by decide +kernel) (fun v w h => h) ?_) ?_
      · intro ρ W hC hc hf hL
        have e5 : ρ (.tmp 5) = .pointer (some ⟨w.heap.size + 1, 0, none⟩) := hL 5 (by decide +kernel)
        have l0 := hC.1.wb.h
        have l1 := hC.1.wb.l
        simp [go_sem, hc, hf, e5, l0, l1]
        exact ⟨Below.refl _ _, rfl⟩
      refine gSt (gStep_on 12 72 true rfl rfl (by decide +kernel) (fun v w h => h) ?_) ?_
      · intro ρ W hC hc hf hL
        have e77 : ρ (.tmp 77) = .agg #[.int .u64 (dgl (c) 1 : Nat), .int .u64 (dgl (c) 0 : Nat)] := hL 77 (by decide +kernel)
        have e78 : ρ (.tmp 78) = .agg #[.int .u64 (dgl (d) 1 : Nat), .int .u64 (dgl (d) 0 : Nat)] := hL 78 (by decide +kernel)
        have l0 := HWE.out
        simp [go_sem, hc, hf, e77, e78, l0]
        exact ⟨Below.refl _ _, rfl⟩
      refine gSt (gStep_on 12 72 true rfl rfl (by decide +kernel) (fun v w h => h) ?_) ?_
      · intro ρ W hC hc hf hL
        have e76 : ρ (.tmp 76) = .bool ga := hL 76 (by decide +kernel)
        have e79 : ρ (.tmp 79) = .bool ga := hL 79 (by decide +kernel)
        simp [go_sem, hc, hf, e76, e79]
        exact ⟨Below.refl _ _, rfl⟩
      refine gSt (gStep_run rfl (gRun_pickT 72 80 81 _ rfl rfl (by decide +kernel) (by decide +kernel) (fun v w h => h) (fun v w h => h))) ?_
      refine gSt (gStep_run rfl (gRun_move 81 82 (.inl rfl) rfl (by decide +kernel) (fun v w h => h))) ?_
      refine gSt (gStep_on 22 82 true rfl rfl (by decide +kernel) (fun v w h => h) ?_) ?_
      · intro ρ W hC hc hf hL
        simp [go_sem, hc, hf]
        refine (awake7_any _ hC.1.g).mono ?_
        rintro e w' ⟨rfl, hb⟩
        exact ⟨_, rfl, by first | exact hb | (subst hb; exact Below.refl _ _), rfl⟩
      refine gSt (gStep_run rfl (gRun_pickT 82 83 84 _ rfl rfl (by decide +kernel) (by decide +kernel) (fun v w h => h) (fun v w h => h))) ?_
      refine gSt (gStep_run rfl (gRun_move 84 6 (.inr rfl) rfl (by decide +kernel) (fun v w h => h))) ?_
      exact gSt0
    · intro W hC
      refine gFi 60 rfl ?_
      rintro _ rfl
      refine gFi 61 rfl ?_
      rintro _ rfl
      refine gFi 62 rfl ?_
      rintro _ rfl
      refine gFi 63 rfl ?_
      rintro _ rfl
      refine gFi 64 rfl ?_
      rintro _ rfl
      refine gFi 65 rfl ?_
      rintro _ rfl
      refine gFi 66 rfl ?_
      rintro _ rfl
      refine gFi 67 rfl ?_
      rintro _ rfl
      refine gFi 68 rfl ?_
      rintro _ rfl
      refine gFi 69 rfl ?_
      rintro _ rfl
      refine gFi 70 rfl ?_
      rintro _ rfl
      refine gFi 71 rfl ?_
      rintro _ rfl
      refine gFi 72 rfl ?_
      rintro _ rfl
      refine gFi 73 rfl ?_
      rintro _ rfl
      refine gFi 74 rfl ?_
      rintro _ rfl
      refine gFi 75 rfl ?_
      rintro _ rfl
      refine gFi 76 rfl ?_
      rintro _ rfl
      refine gFi 77 rfl ?_
      rintro _ rfl
      refine gFi 78 rfl ?_
      rintro _ rfl
      refine gFi 79 rfl ?_
      rintro _ rfl
      refine gFi 80 rfl ?_
      rintro _ rfl
      refine gFi 81 rfl ?_
      rintro _ rfl
      refine gFi 82 rfl ?_
      rintro _ rfl
      refine gFi 83 rfl ?_
      rintro _ rfl
      refine gFi 84 rfl ?_
      rintro _ rfl
      refine gFi 6 rfl ?_
      rintro _ rfl
      refine gFi0 ?_
      simp only [List.drop_succ_cons, List.drop_zero, Act.put, List.setIfInBounds_toArray, List.set_cons_succ, List.set_cons_zero]
      have HB := hide hC.1.bel
      clear hC h7
      go_wp2
      go_ret
      exact ⟨rfl, HB.out⟩

set_option maxHeartbeats 4000000 in
theorem unpackOrder_G (f k1 k2 ea eb r : Int) (a b c d x y : Nat) (ga : Bool)
    (HK1 : Hid (∀ w, Calls Tryd.prog 12 #[.int .i64 f, .agg #[.int .u64 (dgl (a) 1 : Nat), .int .u64 (dgl (a) 0 : Nat)]] w fun e w' => e = .returned (.int .i64 k1) ∧ Below w.heap.size w w'))
    (h1 : ¬ k1 < 4)
    (HK2 : Hid (∀ w, Calls Tryd.prog 12 #[.int .i64 f, .agg #[.int .u64 (dgl (b) 1 : Nat), .int .u64 (dgl (b) 0 : Nat)]] w fun e w' => e = .returned (.int .i64 k2) ∧ Below w.heap.size w w'))
    (h2 : ¬ k2 < 4)
    (HA1 : Hid (∀ w, Calls Tryd.prog 25 #[.int .i64 f, .agg #[.int .u64 (dgl (a) 1 : Nat), .int .u64 (dgl (a) 0 : Nat)], .bool false] w fun e w' => e = .returned (.agg #[.int .u64 (dgl (c) 1 : Nat), .int .u64 (dgl (c) 0 : Nat)]) ∧ Below w.heap.size w w'))
    (HA2 : Hid (∀ w, Calls Tryd.prog 25 #[.int .i64 f, .agg #[.int .u64 (dgl (b) 1 : Nat), .int .u64 (dgl (b) 0 : Nat)], .bool false] w fun e w' => e = .returned (.agg #[.int .u64 (dgl (d) 1 : Nat), .int .u64 (dgl (d) 0 : Nat)]) ∧ Below w.heap.size w w'))
    (HV1 : Hid (∀ w, FmtG w → Calls Tryd.prog 34 #[.int .i64 f, .agg #[.int .u64 (dgl (c) 1 : Nat), .int .u64 (dgl (c) 0 : Nat)]] w fun e w' => e = .returned (.tuple #[.agg #[.bool (false), .int .i64 (ea), .int .u64 (dgl (x) 0 : Nat), .int .u64 (dgl (x) 1 : Nat), .int .u64 (dgl (x) 2 : Nat), .int .u64 (dgl (x) 3 : Nat), .int .u64 (dgl (x) 4 : Nat), .int .u64 (dgl (x) 5 : Nat), .int .u64 (dgl (x) 6 : Nat), .int .u64 (dgl (x) 7 : Nat)], .bool true]) ∧ Below w.heap.size w w'))
    (HV2 : Hid (∀ w, FmtG w → Calls Tryd.prog 34 #[.int .i64 f, .agg #[.int .u64 (dgl (d) 1 : Nat), .int .u64 (dgl (d) 0 : Nat)]] w fun e w' => e = .returned (.tuple #[.agg #[.bool (false), .int .i64 (eb), .int .u64 (dgl (y) 0 : Nat), .int .u64 (dgl (y) 1 : Nat), .int .u64 (dgl (y) 2 : Nat), .int .u64 (dgl (y) 3 : Nat), .int .u64 (dgl (y) 4 : Nat), .int .u64 (dgl (y) 5 : Nat), .int .u64 (dgl (y) 6 : Nat), .int .u64 (dgl (y) 7 : Nat)], .bool true]) ∧ Below w.heap.size w w'))
    (HCP : Hid (∀ w, Calls Tryd.prog 44 #[.agg #[.bool (false), .int .i64 (ea), .int .u64 (dgl (x) 0 : Nat), .int .u64 (dgl (x) 1 : Nat), .int .u64 (dgl (x) 2 : Nat), .int .u64 (dgl (x) 3 : Nat), .int .u64 (dgl (x) 4 : Nat), .int .u64 (dgl (x) 5 : Nat), .int .u64 (dgl (x) 6 : Nat), .int .u64 (dgl (x) 7 : Nat)], .agg #[.bool (false), .int .i64 (eb), .int .u64 (dgl (y) 0 : Nat), .int .u64 (dgl (y) 1 : Nat), .int .u64 (dgl (y) 2 : Nat), .int .u64 (dgl (y) 3 : Nat), .int .u64 (dgl (y) 4 : Nat), .int .u64 (dgl (y) 5 : Nat), .int .u64 (dgl (y) 6 : Nat), .int .u64 (dgl (y) 7 : Nat)]] w fun e w' => e = .returned (.int .i64 r) ∧ Below w.heap.size w w'))
    (hlt : ¬ ((dgl c 1 : Nat) : Int) < ((dgl d 1 : Nat) : Int)) (heq : (((dgl c 1 : Nat) : Int) == ((dgl d 1 : Nat) : Int)) = false)
    (HB1 : Hid (decide (r < 0) = (decide (dgl c 1 < dgl d 1)))) (HB2 : Hid ((r == 0) = ga)) (HWE : Hid (∀ w, (Op.equalIn 10000 24 (.agg #[.int .u64 (dgl (c) 1 : Nat), .int .u64 (dgl (c) 0 : Nat)]) (.agg #[.int .u64 (dgl (d) 1 : Nat), .int .u64 (dgl (d) 0 : Nat)])).run Tryd.prog w = .ok ga w)) (w : World) (hg : FmtG w) :
    Calls Tryd.prog 11 #[.int .i64 f, .agg #[.int .u64 (dgl (a) 1 : Nat), .int .u64 (dgl (a) 0 : Nat)], .agg #[.int .u64 (dgl (b) 1 : Nat), .int .u64 (dgl (b) 0 : Nat)]] w fun e w' => e = .returned (.bool true) ∧ Below w.heap.size w w' := by
  have HS := hide (orSt_start a b w hg)
  clear hg
  go_enter Tryd.func11, Tryd.ntmps11
  go_upto_region 1 with fail
  refine wp_gen (fun W => OrSt a b w W) HS.out ?_
  clear HS
  rintro W1 g1
  have HS := hide g1
  clear g1
  have l0 := HS.out.wa.h
  have l1 := HS.out.wa.l
  go_wp2_with fail
  refine (HK1.out _).mono ?_
  rintro e w1 ⟨rfl, hb1⟩
  replace HS := hide (HS.out.below hb1)
  clear hb1 l0 l1
  have l0 := HS.out.wb.h
  have l1 := HS.out.wb.l
  go_wp2_with fail
  refine (HK2.out _).mono ?_
  rintro e w2 ⟨rfl, hb2⟩
  replace HS := hide (HS.out.below hb2)
  clear hb2 l0 l1
  go_upto_region 3 with fail
  refine wp_gen (fun W => OrSt a b w W) HS.out ?_
  clear HS
  rintro W3 h3
  refine wp_region_storeK 8 [6, 7] [23, 24, 25, 26, 27, 28] (fun bs => [(23, .val (.int .i64 f)), (24, .val (.agg #[.int .u64 (dgl (a) 1 : Nat), .int .u64 (dgl (a) 0 : Nat)])), (25, .val (.agg #[.int .u64 (dgl (c) 1 : Nat), .int .u64 (dgl (c) 0 : Nat)])), (26, .val (.int .i64 f)), (27, .val (.agg #[.int .u64 (dgl (b) 1 : Nat), .int .u64 (dgl (b) 0 : Nat)])), (28, .val (.agg #[.int .u64 (dgl (d) 1 : Nat), .int .u64 (dgl (d) 0 : Nat)]))])
    (fun bs W => ∀ p q, bs.headD false = p → bs.tail.headD false = q → OrSt (bif p then c else a) (bif q then d else b) w W) (fun bs => rfl) mixedOk (by kernel_rfl) (by kernel_rfl) (by kernel_rfl) (fun p q hp hq => by subst hp hq; exact h3.below (Below.refl _ _).drew) (fun bs W W' h hb p q hp hq => (h p q hp hq).below hb) ?_ ?_
  · refine kSt rfl (fun φ hφ => gStep_run rfl (gRun_move 0 23 (.inl rfl) rfl (by decide +kernel) (fun v w h => h))) ?_
    refine kSt rfl (fun φ hφ => gStep_run rfl ?_) ?_
    · intro ρ W hC hc hf hL
      have e4 : ρ (.tmp 4) = .pointer (some ⟨w.heap.size, 0, none⟩) := hL 4 (by decide +kernel)
      have hφ0 : φ 6 = false := hφ 6 (by simp) (by kernel_rfl)
      have hD : OrSt a (bif φ 7 then d else b) w W := hC false (φ 7) hφ0 rfl
      have l0 := hD.wa.h
      have l1 := hD.wa.l
      simp [go_sem, hc, hf, e4, l0, l1]
      exact ⟨Below.refl _ _, rfl⟩
    refine kSt rfl (fun φ hφ => gStep_run rfl ?_) ?_
    · intro ρ W hC hc hf hL
      have e23 : ρ (.tmp 23) = .int .i64 f := hL 23 (by decide +kernel)
      have e24 : ρ (.tmp 24) = .agg #[.int .u64 (dgl (a) 1 : Nat), .int .u64 (dgl (a) 0 : Nat)] := hL 24 (by decide +kernel)
      simp [go_sem, hc, hf, e23, e24]
      refine (HA1.out W).mono ?_
      rintro e w' ⟨rfl, hb⟩
      exact ⟨_, rfl, by first | exact hb | (subst hb; exact Below.refl _ _), rfl⟩
    refine kSt rfl (fun φ hφ => gStep_run rfl (gRun_move 0 26 (.inl rfl) rfl (by decide +kernel) (fun v w h => h))) ?_
    refine kSt rfl (fun φ hφ => gStep_run rfl ?_) ?_
    · intro ρ W hC hc hf hL
      have e5 : ρ (.tmp 5) = .pointer (some ⟨w.heap.size + 1, 0, none⟩) := hL 5 (by decide +kernel)
      have hφ0 : φ 7 = false := hφ 7 (by simp) (by kernel_rfl)
      have hD : OrSt (bif φ 6 then c else a) b w W := hC (φ 6) false rfl hφ0
      have l0 := hD.wb.h
      have l1 := hD.wb.l
      simp [go_sem, hc, hf, e5, l0, l1]
      exact ⟨Below.refl _ _, rfl⟩
    refine kSt rfl (fun φ hφ => gStep_run rfl ?_) ?_
    · intro ρ W hC hc hf hL
      have e26 : ρ (.tmp 26) = .int .i64 f := hL 26 (by decide +kernel)
      have e27 : ρ (.tmp 27) = .agg #[.int .u64 (dgl (b) 1 : Nat), .int .u64 (dgl (b) 0 : Nat)] := hL 27 (by decide +kernel)
      simp [go_sem, hc, hf, e26, e27]
      refine (HA2.out W).mono ?_
      rintro e w' ⟨rfl, hb⟩
      exact ⟨_, rfl, by first | exact hb | (subst hb; exact Below.refl _ _), rfl⟩
    refine kStS rfl ⟨rfl, rfl, ?_⟩ ?_
    · intro φ ρ W hφ hC hc hL
      have e4 : ρ (.tmp 4) = .pointer (some ⟨w.heap.size, 0, none⟩) := hL 4 (by decide +kernel)
      have e25 : ρ (.tmp 25) = .agg #[.int .u64 (dgl (c) 1 : Nat), .int .u64 (dgl (c) 0 : Nat)] := hL 25 (by decide +kernel)
      have hD : OrSt a (bif φ 7 then d else b) w W := hC false (φ 7) hφ rfl
      have l0 := hD.wa.h
      have l1 := hD.wa.l
      have hz := hD.za
      have hl := hD.wa.lt
      refine gUpon_of ((W.setCell ⟨w.heap.size, 0, none⟩ (.int .u64 (dgl c 1 : Nat))).setCell ⟨w.heap.size, 1, none⟩ (.int .u64 (dgl c 0 : Nat))) ?_ (fun _ => ?_)
      · simp [go_sem, hc, e4, e25, l0, l1, hz, hl, gUpon]
      refine ⟨fun p q hp hq => ?_, fun t => (tbl_imp rfl (fun _ => val_imp) (tbl_imp rfl (fun _ => val_imp) (tbl_imp rfl (fun _ => val_imp) (tbl_imp rfl (fun _ => val_imp) (tbl_imp rfl (fun _ => val_imp) (tbl_imp rfl (fun _ => val_imp) tbl_nil_imp))))))⟩
      have hp2 : (φ 6 || true) = p := hp
      have hq2 : (φ 7 || false) = q := hq
      rw [Bool.or_true] at hp2
      rw [Bool.or_false] at hq2
      subst hp2 hq2
      exact hD.setA c
    refine kStS rfl ⟨rfl, rfl, ?_⟩ ?_
    · intro φ ρ W hφ hC hc hL
      have e5 : ρ (.tmp 5) = .pointer (some ⟨w.heap.size + 1, 0, none⟩) := hL 5 (by decide +kernel)
      have e28 : ρ (.tmp 28) = .agg #[.int .u64 (dgl (d) 1 : Nat), .int .u64 (dgl (d) 0 : Nat)] := hL 28 (by decide +kernel)
      have hD : OrSt (bif φ 6 then c else a) b w W := hC (φ 6) false rfl hφ
      have l0 := hD.wb.h
      have l1 := hD.wb.l
      have hz := hD.zb
      have hl := hD.wb.lt
      refine gUpon_of ((W.setCell ⟨w.heap.size + 1, 0, none⟩ (.int .u64 (dgl d 1 : Nat))).setCell ⟨w.heap.size + 1, 1, none⟩ (.int .u64 (dgl d 0 : Nat))) ?_ (fun _ => ?_)
      · simp [go_sem, hc, e5, e28, l0, l1, hz, hl, gUpon]
      refine ⟨fun p q hp hq => ?_, fun t => (tbl_imp rfl (fun _ => val_imp) (tbl_imp rfl (fun _ => val_imp) (tbl_imp rfl (fun _ => val_imp) (tbl_imp rfl (fun _ => val_imp) (tbl_imp rfl (fun _ => val_imp) (tbl_imp rfl (fun _ => val_imp) tbl_nil_imp))))))⟩
      have hp2 : (φ 6 || false) = p := hp
      have hq2 : (φ 7 || true) = q := hq
      rw [Bool.or_false] at hp2
      rw [Bool.or_true] at hq2
      subst hp2 hq2
      exact hD.setB d
    exact kSt0
  · intro W hC
    refine gFi 23 rfl ?_
    rintro _ rfl
    refine gFi 24 rfl ?_
    rintro _ rfl
    refine gFi 25 rfl ?_
    rintro _ rfl
    refine gFi 26 rfl ?_
    rintro _ rfl
    refine gFi 27 rfl ?_
    rintro _ rfl
    refine gFi 28 rfl ?_
    rintro _ rfl
    refine gFiN rfl ?_
    refine gFiN rfl ?_
    refine gFi0 ?_
    simp only [List.drop_succ_cons, List.drop_zero, Act.put, List.setIfInBounds_toArray, List.set_cons_succ, List.set_cons_zero]
    have HS : Hid (OrSt c d w W) := hC true true rfl rfl
    clear hC h3
    have l0 := HS.out.wa.h
    have l1 := HS.out.wa.l
    go_wp2_with fail
    refine (HV1.out _ HS.out.g).mono ?_
    rintro e w4 ⟨rfl, hb4⟩
    replace HS := hide (HS.out.below hb4)
    clear hb4 l0 l1
    go_upto_region 5 with fail
    refine wp_gen (fun W => OrSt c d w W ∧ NB W w4.heap.size false ea x) ⟨HS.out.below (below_allocs _ _), nb_new _ _ _ _ _⟩ ?_
    clear HS
    generalize w4.heap.size = p7
    rintro W5 ⟨g1, g2⟩
    have HS := hide g1
    have HN := hide g2
    clear g1 g2
    have l0 := HS.out.wb.h
    have l1 := HS.out.wb.l
    go_wp2_with fail
    refine (HV2.out _ HS.out.g).mono ?_
    rintro e w5 ⟨rfl, hb5⟩
    replace HS := hide (HS.out.below hb5)
    replace HN := hide (HN.out.below hb5)
    clear hb5 l0 l1
    go_upto_region 6 with fail
    refine wp_gen (fun W => OrSt c d w W ∧ NB W p7 false ea x ∧ NB W w5.heap.size false eb y) ⟨HS.out.below (below_allocs _ _), HN.out.below (below_allocs _ _), nb_new _ _ _ _ _⟩ ?_
    clear HS HN
    generalize w5.heap.size = p9
    rintro W6 g
    have HG := hide g
    have l0 := g.1.wa.h
    have l1 := g.1.wa.l
    have l2 := g.1.wb.h
    have l3 := g.1.wb.l
    clear g
    go_upto_region 7 with fail
    refine wp_gen (fun W => OrSt c d w W ∧ NB W p7 false ea x ∧ NB W p9 false eb y) HG.out ?_
    clear HG l0 l1 l2 l3
    rintro W7 h7
    refine wp_region_grow 26 [(60, .val (.bool true)), (61, .val (.bool true)), (62, .val (.bool true)), (63, .val (.bool true)), (64, .val (.bool true)), (65, .val (.agg #[.bool (false), .int .i64 (ea), .int .u64 (dgl (x) 0 : Nat), .int .u64 (dgl (x) 1 : Nat), .int .u64 (dgl (x) 2 : Nat), .int .u64 (dgl (x) 3 : Nat), .int .u64 (dgl (x) 4 : Nat), .int .u64 (dgl (x) 5 : Nat), .int .u64 (dgl (x) 6 : Nat), .int .u64 (dgl (x) 7 : Nat)])), (66, .val (.agg #[.bool (false), .int .i64 (eb), .int .u64 (dgl (y) 0 : Nat), .int .u64 (dgl (y) 1 : Nat), .int .u64 (dgl (y) 2 : Nat), .int .u64 (dgl (y) 3 : Nat), .int .u64 (dgl (y) 4 : Nat), .int .u64 (dgl (y) 5 : Nat), .int .u64 (dgl (y) 6 : Nat), .int .u64 (dgl (y) 7 : Nat)])), (67, .val (.int .i64 r)), (68, .val (.bool (decide (dgl c 1 < dgl d 1)))), (69, .val (.bool (decide (dgl c 1 < dgl d 1)))), (70, .val (.bool true)), (71, .val (.bool true)), (72, .val (.bool true)), (73, .val (.agg #[.bool (false), .int .i64 (ea), .int .u64 (dgl (x) 0 : Nat), .int .u64 (dgl (x) 1 : Nat), .int .u64 (dgl (x) 2 : Nat), .int .u64 (dgl (x) 3 : Nat), .int .u64 (dgl (x) 4 : Nat), .int .u64 (dgl (x) 5 : Nat), .int .u64 (dgl (x) 6 : Nat), .int .u64 (dgl (x) 7 : Nat)])), (74, .val (.agg #[.bool (false), .int .i64 (eb), .int .u64 (dgl (y) 0 : Nat), .int .u64 (dgl (y) 1 : Nat), .int .u64 (dgl (y) 2 : Nat), .int .u64 (dgl (y) 3 : Nat), .int .u64 (dgl (y) 4 : Nat), .int .u64 (dgl (y) 5 : Nat), .int .u64 (dgl (y) 6 : Nat), .int .u64 (dgl (y) 7 : Nat)])), (75, .val (.int .i64 r)), (76, .val (.bool ga)), (77, .val (.agg #[.int .u64 (dgl (c) 1 : Nat), .int .u64 (dgl (c) 0 : Nat)])), (78, .val (.agg #[.int .u64 (dgl (d) 1 : Nat), .int .u64 (dgl (d) 0 : Nat)])), (79, .val (.bool ga)), (80, .val (.bool true)), (81, .val (.bool true)), (82, .val (.bool true)), (83, .val (.bool true)), (84, .val (.bool true)), (6, .val (.bool true))]
      (fun W => OrSt c d w W ∧ NB W p7 false ea x ∧ NB W p9 false eb y) mixedOk (by kernel_rfl) (by kernel_rfl) (⟨h7.1.below (Below.refl _ _).drew, h7.2.1.below (Below.refl _ _).drew, h7.2.2.below (Below.refl _ _).drew⟩) (fun W W' h hb => ⟨h.1.below hb, h.2.1.below hb, h.2.2.below hb⟩) ?_ ?_
    · refine gSt (gStep_run rfl (gRun_move 8 60 (.inl rfl) rfl (by decide +kernel) (fun v w h => h))) ?_
      refine gSt (gStep_run rfl (gRun_move 60 61 (.inl rfl) rfl (by decide +kernel) (fun v w h => h))) ?_
      refine gSt (gStep_on 1 61 true rfl rfl (by decide +kernel) (fun v w h => h) (gRun_move 10 62 (.inl rfl) rfl (by decide +kernel) (fun v w h => h))) ?_
      refine gSt (gStep_run rfl (gRun_pickT 61 62 63 _ rfl rfl (by decide +kernel) (by decide +kernel) (fun v w h => h) (fun v w h => h))) ?_
      refine gSt (gStep_run rfl (gRun_move 63 64 (.inl rfl) rfl (by decide +kernel) (fun v w h => h))) ?_
      refine gSt (gStep_on 4 64 true rfl rfl (by decide +kernel) (fun v w h => h) ?_) ?_
      · intro ρ W hC hc hf hL
        have e7 : ρ (.tmp 7) = .pointer (some ⟨p7, 0, none⟩) := hL 7 (by decide +kernel)
        have mn := hC.2.1.n
        have me := hC.2.1.e
        have m0 := hC.2.1.x0
        have m1 := hC.2.1.x1
        have m2 := hC.2.1.x2
        have m3 := hC.2.1.x3
        have m4 := hC.2.1.x4
        have m5 := hC.2.1.x5
        have m6 := hC.2.1.x6
        have m7 := hC.2.1.x7
        simp [go_sem, hc, hf, e7, mn, me, m0, m1, m2, m3, m4, m5, m6, m7]
        exact ⟨Below.refl _ _, rfl⟩
      refine gSt (gStep_on 4 64 true rfl rfl (by decide +kernel) (fun v w h => h) ?_) ?_
      · intro ρ W hC hc hf hL
        have e9 : ρ (.tmp 9) = .pointer (some ⟨p9, 0, none⟩) := hL 9 (by decide +kernel)
        have kn := hC.2.2.n
        have ke := hC.2.2.e
        have k0_ := hC.2.2.x0
        have k1_ := hC.2.2.x1
        have k2_ := hC.2.2.x2
        have k3_ := hC.2.2.x3
        have k4_ := hC.2.2.x4
        have k5_ := hC.2.2.x5
        have k6_ := hC.2.2.x6
        have k7_ := hC.2.2.x7
        simp [go_sem, hc, hf, e9, kn, ke, k0_, k1_, k2_, k3_, k4_, k5_, k6_, k7_]
        exact ⟨Below.refl _ _, rfl⟩
      refine gSt (gStep_on 4 64 true rfl rfl (by decide +kernel) (fun v w h => h) ?_) ?_
      · intro ρ W hC hc hf hL
        have e65 : ρ (.tmp 65) = .agg #[.bool (false), .int .i64 (ea), .int .u64 (dgl (x) 0 : Nat), .int .u64 (dgl (x) 1 : Nat), .int .u64 (dgl (x) 2 : Nat), .int .u64 (dgl (x) 3 : Nat), .int .u64 (dgl (x) 4 : Nat), .int .u64 (dgl (x) 5 : Nat), .int .u64 (dgl (x) 6 : Nat), .int .u64 (dgl (x) 7 : Nat)] := hL 65 (by decide +kernel)
        have e66 : ρ (.tmp 66) = .agg #[.bool (false), .int .i64 (eb), .int .u64 (dgl (y) 0 : Nat), .int .u64 (dgl (y) 1 : Nat), .int .u64 (dgl (y) 2 : Nat), .int .u64 (dgl (y) 3 : Nat), .int .u64 (dgl (y) 4 : Nat), .int .u64 (dgl (y) 5 : Nat), .int .u64 (dgl (y) 6 : Nat), .int .u64 (dgl (y) 7 : Nat)] := hL 66 (by decide +kernel)
        simp [go_sem, hc, hf, e65, e66]
        refine (HCP.out W).mono ?_
        rintro e w' ⟨rfl, hb⟩
        exact ⟨_, rfl, by first | exact hb | (subst hb; exact Below.refl _ _), rfl⟩
      refine gSt (gStep_on 4 64 true rfl rfl (by decide +kernel) (fun v w h => h) ?_) ?_
      · intro ρ W hC hc hf hL
        have e67 : ρ (.tmp 67) = .int .i64 r := hL 67 (by decide +kernel)
        have l0 := HB1.out
        simp [go_sem, hc, hf, e67, l0]
        exact ⟨Below.refl _ _, rfl⟩
      refine gSt (gStep_on 4 64 true rfl rfl (by decide +kernel) (fun v w h => h) (gRun_move 11 69 (.inl rfl) rfl (by decide +kernel) (fun v w h => h))) ?_
      refine gSt (gStep_on 4 64 true rfl rfl (by decide +kernel) (fun v w h => h) ?_) ?_
      · intro ρ W hC hc hf hL
        have e68 : ρ (.tmp 68) = .bool (decide (dgl c 1 < dgl d 1)) := hL 68 (by decide +kernel)
        have e69 : ρ (.tmp 69) = .bool (decide (dgl c 1 < dgl d 1)) := hL 69 (by decide +kernel)
        simp [go_sem, hc, hf, e68, e69]
        exact ⟨Below.refl _ _, rfl⟩
      refine gSt (gStep_run rfl (gRun_pickT 64 70 71 _ rfl rfl (by decide +kernel) (by decide +kernel) (fun v w h => h) (fun v w h => h))) ?_
      refine gSt (gStep_run rfl (gRun_move 71 72 (.inl rfl) rfl (by decide +kernel) (fun v w h => h))) ?_
      refine gSt (gStep_on 12 72 true rfl rfl (by decide +kernel) (fun v w h => h) ?_) ?_
      · intro ρ W hC hc hf hL
        have e7 : ρ (.tmp 7) = .pointer (some ⟨p7, 0, none⟩) := hL 7 (by decide +kernel)
        have mn := hC.2.1.n
        have me := hC.2.1.e
        have m0 := hC.2.1.x0
        have m1 := hC.2.1.x1
        have m2 := hC.2.1.x2
        have m3 := hC.2.1.x3
        have m4 := hC.2.1.x4
        have m5 := hC.2.1.x5
        have m6 := hC.2.1.x6
        have m7 := hC.2.1.x7
        simp [go_sem, hc, hf, e7, mn, me, m0, m1, m2, m3, m4, m5, m6, m7]
        exact ⟨Below.refl _ _, rfl⟩
      refine gSt (gStep_on 12 72 true rfl rfl (by decide +kernel) (fun v w h => h) ?_) ?_
      · intro ρ W hC hc hf hL
        have e9 : ρ (.tmp 9) = .pointer (some ⟨p9, 0, none⟩) := hL 9 (by decide +kernel)
        have kn := hC.2.2.n
        have ke := hC.2.2.e
        have k0_ := hC.2.2.x0
        have k1_ := hC.2.2.x1
        have k2_ := hC.2.2.x2
        have k3_ := hC.2.2.x3
        have k4_ := hC.2.2.x4
        have k5_ := hC.2.2.x5
        have k6_ := hC.2.2.x6
        have k7_ := hC.2.2.x7
        simp [go_sem, hc, hf, e9, kn, ke, k0_, k1_, k2_, k3_, k4_, k5_, k6_, k7_]
        exact ⟨Below.refl _ _, rfl⟩
      refine gSt (gStep_on 12 72 true rfl rfl (by decide +kernel) (fun v w h => h) ?_) ?_
      · intro ρ W hC hc hf hL
        have e73 : ρ (.tmp 73) = .agg #[.bool (false), .int .i64 (ea), .int .u64 (dgl (x) 0 : Nat), .int .u64 (dgl (x) 1 : Nat), .int .u64 (dgl (x) 2 : Nat), .int .u64 (dgl (x) 3 : Nat), .int .u64 (dgl (x) 4 : Nat), .int .u64 (dgl (x) 5 : Nat), .int .u64 (dgl (x) 6 : Nat), .int .u64 (dgl (x) 7 : Nat)] := hL 73 (by decide +kernel)
        have e74 : ρ (.tmp 74) = .agg #[.bool (false), .int .i64 (eb), .int .u64 (dgl (y) 0 : Nat), .int .u64 (dgl (y) 1 : Nat), .int .u64 (dgl (y) 2 : Nat), .int .u64 (dgl (y) 3 : Nat), .int .u64 (dgl (y) 4 : Nat), .int .u64 (dgl (y) 5 : Nat), .int .u64 (dgl (y) 6 : Nat), .int .u64 (dgl (y) 7 : Nat)] := hL 74 (by decide +kernel)
        simp [go_sem, hc, hf, e73, e74]
        refine (HCP.out W).mono ?_
        rintro e w' ⟨rfl, hb⟩
        exact ⟨_, rfl, by first | exact hb | (subst hb; exact Below.refl _ _), rfl⟩
      refine gSt (gStep_on 12 72 true rfl rfl (by decide +kernel) (fun v w h => h) ?_) ?_
      · intro ρ W hC hc hf hL
        have e75 : ρ (.tmp 75) = .int .i64 r := hL 75 (by decide +kernel)
        have l0 := HB2.out
        simp [go_sem, hc, hf, e75, l0, -beq_eq_false_iff_ne, -beq_iff_eq]
        exact ⟨Below.refl _ _, rfl⟩
      refine gSt (gStep_on 12 72 true rfl rfl (by decide +kernel) (fun v w h => h) ?_) ?_
      · intro ρ W hC hc hf hL
        have e4 : ρ (.tmp 4) = .pointer (some ⟨w.heap.size, 0, none⟩) := hL 4 (by decide +kernel)
        have l0 := hC.1.wa.h
        have l1 := hC.1.wa.l
        simp [go_sem, hc, hf, e4, l0, l1]
        exact ⟨Below.refl _ _, rfl⟩
      refine gSt (gStep_on 12 72 true rfl rfl (by decide +kernel) (fun v w h => h) ?_) ?_
      · intro ρ W hC hc hf hL
        have e5 : ρ (.tmp 5) = .pointer (some ⟨w.heap.size + 1, 0, none⟩) := hL 5 (by decide +kernel)
        have l0 := hC.1.wb.h
        have l1 := hC.1.wb.l
        simp [go_sem, hc, hf, e5, l0, l1]
        exact ⟨Below.refl _ _, rfl⟩
      refine gSt (gStep_on 12 72 true rfl rfl (by decide +kernel) (fun v w h => h) ?_) ?_
      · intro ρ W hC hc hf hL
        have e77 : ρ (.tmp 77) = .agg #[.int .u64 (dgl (c) 1 : Nat), .int .u64 (dgl (c) 0 : Nat)] := hL 77 (by decide +kernel)
        have e78 : ρ (.tmp 78) = .agg #[.int .u64 (dgl (d) 1 : Nat), .int .u64 (dgl (d) 0 : Nat)] := hL 78 (by decide +kernel)
        have l0 := HWE.out
        simp [go_sem, hc, hf, e77, e78, l0]
        exact ⟨Below.refl _ _, rfl⟩
      refine gSt (gStep_on 12 72 true rfl rfl (by decide +kernel) (fun v w h => h) ?_) ?_
      · intro ρ W hC hc hf hL
        have e76 : ρ (.tmp 76) = .bool ga := hL 76 (by decide +kernel)
        have e79 : ρ (.tmp 79) = .bool ga := hL 79 (by decide +kernel)
        simp [go_sem, hc, hf, e76, e79]
        exact ⟨Below.refl _ _, rfl⟩
      refine gSt (gStep_run rfl (gRun_pickT 72 80 81 _ rfl rfl (by decide +kernel) (by decide +kernel) (fun v w h => h) (fun v w h => h))) ?_
      refine gSt (gStep_run rfl (gRun_move 81 82 (.inl rfl) rfl (by decide +kernel) (fun v w h => h))) ?_
      refine gSt (gStep_on 22 82 true rfl rfl (by decide +kernel) (fun v w h => h) ?_) ?_
      · intro ρ W hC hc hf hL
        simp [go_sem, hc, hf]
        refine (awake7_any _ hC.1.g).mono ?_
        rintro e w' ⟨rfl, hb⟩
        exact ⟨_, rfl, by first | exact hb | (subst hb; exact Below.refl _ _), rfl⟩
      refine gSt (gStep_run rfl (gRun_pickT 82 83 84 _ rfl rfl (by decide +kernel) (by decide +kernel) (fun v w h => h) (fun v w h => h))) ?_
      refine gSt (gStep_run rfl (gRun_move 84 6 (.inr rfl) rfl (by decide +kernel) (fun v w h => h))) ?_
      exact gSt0
    · intro W hC
      refine gFi 60 rfl ?_
      rintro _ rfl
      refine gFi 61 rfl ?_
      rintro _ rfl
      refine gFi 62 rfl ?_
      rintro _ rfl
      refine gFi 63 rfl ?_
      rintro _ rfl
      refine gFi 64 rfl ?_
      rintro _ rfl
      refine gFi 65 rfl ?_
      rintro _ rfl
      refine gFi 66 rfl ?_
      rintro _ rfl
      refine gFi 67 rfl ?_
      rintro _ rfl
      refine gFi 68 rfl ?_
      rintro _ rfl
      refine gFi 69 rfl ?_
      rintro _ rfl
      refine gFi 70 rfl ?_
      rintro _ rfl
      refine gFi 71 rfl ?_
      rintro _ rfl
      refine gFi 72 rfl ?_
      rintro _ rfl
      refine gFi 73 rfl ?_
      rintro _ rfl
      refine gFi 74 rfl ?_
      rintro _ rfl
      refine gFi 75 rfl ?_
      rintro _ rfl
      refine gFi 76 rfl ?_
      rintro _ rfl
      refine gFi 77 rfl ?_
      rintro _ rfl
      refine gFi 78 rfl ?_
      rintro _ rfl
      refine gFi 79 rfl ?_
      rintro _ rfl
      refine gFi 80 rfl ?_
      rintro _ rfl
      refine gFi 81 rfl ?_
      rintro _ rfl
      refine gFi 82 rfl ?_
      rintro _ rfl
      refine gFi 83 rfl ?_
      rintro _ rfl
      refine gFi 84 rfl ?_
      rintro _ rfl
      refine gFi 6 rfl ?_
      rintro _ rfl
      refine gFi0 ?_
      simp only [List.drop_succ_cons, List.drop_zero, Act.put, List.setIfInBounds_toArray, List.set_cons_succ, List.set_cons_zero]
      have HB := hide hC.1.bel
      clear hC h7
      go_wp2
      go_ret
      exact ⟨rfl, HB.out⟩

theorem unpackOrder_num (f : Int) (a b : Nat) (ha : a < 2 ^ 128) (hb : b < 2 ^ 128) (w : World) (hg : FmtG w) :
    Calls Tryd.prog 11 #[.int .i64 f, .agg #[.int .u64 (dgl (a) 1 : Nat), .int .u64 (dgl (a) 0 : Nat)], .agg #[.int .u64 (dgl (b) 1 : Nat), .int .u64 (dgl (b) 0 : Nat)]] w fun e w' => e = .returned (.bool true) ∧ Below w.heap.size w w' := by
  have K1 := fun w => refCls_u f a ha w
  have K2 := fun w => refCls_u f b hb w
  by_cases h1 : clsU f a < 4
  · exact unpackOrder_N1 f _ 0 0 0 0 a b 0 0 0 0 false K1 (by omega) w hg
  by_cases h2 : clsU f b < 4
  · exact unpackOrder_N2 f _ _ 0 0 0 a b 0 0 0 0 false K1 (by omega) K2 (by omega) w hg
  have hf : 1 ≤ f ∧ f ≤ 4 := cls_form (a := a) (by omega)
  have A1 := fun w => refSgn_u f a ha false (by omega) w
  have A2 := fun w => refSgn_u f b hb false (by omega) w
  rw [sgn_abs f a (by omega)] at A1
  rw [sgn_abs f b (by omega)] at A2
  obtain ⟨-, -, na, ca, -⟩ := signsU f a (by omega)
  obtain ⟨-, -, nb, cb, -⟩ := signsU f b (by omega)
  have la := absU_lt a hf
  have lb := absU_lt b hf
  have hm : 2 ^ mU f ≤ 2 ^ 128 := Nat.pow_le_pow_right (by decide) (by
    unfold mU tU
    repeat' split
    all_goals decide)
  generalize absU f a = c at *
  generalize absU f b = d at *
  have hc : c < 2 ^ 128 := by omega
  have hd : d < 2 ^ 128 := by omega
  have V1 := fun w hg => uval_yes f c hc (by omega) w hg
  have V2 := fun w hg => uval_yes f d hd (by omega) w hg
  rw [na] at V1
  rw [nb] at V2
  have e1 := loU_bd f
  have rr : ∀ x, rgt (expU f x) = true := fun x => by
    have h3 := fldU_le f x
    unfold rgt
    rw [Bool.and_eq_true, decide_eq_true_iff, decide_eq_true_iff]
    unfold expU
    split <;> omega
  have CP := fun w => ucmp_any false false (expU f c) (expU f d) (sigU f c) (sigU f d) (sigU_qq f c hf) (sigU_qq f d hf) (rr c) (rr d) w
  rw [words_cmp hf la lb] at CP
  have n1 := cmpN_neg c d
  have n2 := cmpN_zero c d
  have w1 := word_back c hc
  have w2 := word_back d hd
  have d1 := dgl_lt c 0
  have d2 := dgl_lt d 0
  have WE := fun w => word_eq hc hd w
  have B2 : (cmpN c d == 0) = decide (c = d) := by rw [Bool.eq_iff_iff, beq_iff_eq, decide_eq_true_iff]; exact n2
  have k1 : ¬ ((clsU f a : Nat) : Int) < 4 := by omega
  have k2 : ¬ ((clsU f b : Nat) : Int) < 4 := by omega
  by_cases hl : dgl c 1 < dgl d 1
  · exact unpackOrder_L f _ _ _ _ _ a b c d _ _ _ K1 k1 K2 k2 A1 A2 V1 V2 CP (by omega) (by unfold Hid; rw [decide_eq_true_iff, n1]; omega) B2 WE w hg
  by_cases he : dgl c 1 = dgl d 1
  · exact unpackOrder_E f _ _ _ _ _ a b c d _ _ _ K1 k1 K2 k2 A1 A2 V1 V2 CP (by omega) (by rw [beq_iff_eq, he]) (by unfold Hid; rw [Bool.eq_iff_iff, Bool.or_eq_true, decide_eq_true_iff, decide_eq_true_iff, decide_eq_true_iff, n1]; omega) B2 WE w hg
  · exact unpackOrder_G f _ _ _ _ _ a b c d _ _ _ K1 k1 K2 k2 A1 A2 V1 V2 CP (by omega) (by rw [beq_eq_false_iff_ne]; omega) (by unfold Hid; rw [decide_eq_decide, n1]; omega) B2 WE w hg
theorem unpackOrder_all (f : Int) (h1 l1 h2 l2 : Nat) (b1 : h1 < 18446744073709551616) (b2 : l1 < 18446744073709551616) (b3 : h2 < 18446744073709551616) (b4 : l2 < 18446744073709551616) (w : World) (hg : FmtG w) :
    Calls Tryd.prog 11 #[.int .i64 f, .agg #[.int .u64 (h1 : Nat), .int .u64 (l1 : Nat)], .agg #[.int .u64 (h2 : Nat), .int .u64 (l2 : Nat)]] w fun e w' => e = .returned (.bool true) ∧ Below w.heap.size w w' := by
  have e1 := word_num h1 l1 b1 b2
  have e2 := word_num h2 l2 b3 b4
  have := unpackOrder_num f (l1 + 18446744073709551616 * h1) (l2 + 18446744073709551616 * h2) (by omega) (by omega) w hg
  rw [e1.1, e1.2, e2.1, e2.2] at this
  exact this

end Go.Proofs.YtidfegilddlglaaDoor

/- UnpackOrder: for every format and any two words the law returns true. Conditions: those of the tied card (the table of formats is laid as the program lays it). -/
namespace Go.Proofs.YtidfegilddlglaaDoor.unpackOrder
open Go.ChangeShapes Go.WideShapes Go.ChangeAt Go.RowKit Go.Proofs.YtidfegilddlglaaDoor

theorem own : ownKnob Tryd.prog.godebug = none := by kernel_rfl
theorem laidOut : laidOutB Tryd.prog = true := by kernel_rfl

theorem door_met (os : Os) (args : Array Value) : laidMetH Tryd.prog [("radicand/format.formats", Rows.laid_radicand_format_formats)] ((World.doorLaid Tryd.prog 400 os).forCall (fun _ _ => 0) ⟨#[], args, []⟩).memory :=
  laidMetH_of_parts3 (fuel := 8) (laidMet_of_run' 8 (by kernel_rfl) (by kernel_rfl)) (by kernel_rfl) (by kernel_rfl)

set_option maxRecDepth 100000 in
theorem lifted (os : Os) (started : os.Started) (H : Type) (enc : TypeId × Value → H) :
    ReturnsInHanded {} Tryd.checked os 11 .any (fun w args => (Rows.unpackOrderSpec.pre enc Tryd.prog Tryd.f11 [] false w args ∧ laidMetH Tryd.prog [("radicand/format.formats", Rows.laid_radicand_format_formats)] w) ∧ sizedMet enc Tryd.prog Tryd.f11 (OpenSpec.ofChange Rows.unpackOrderSpec) false w args) (Rows.unpackOrderSpec.post enc Tryd.prog Tryd.f11 false true false false) := by
  refine returnsInHanded_of_change_and (C := Tryd.checked) (X := fun w _ => laidMetH Tryd.prog [("radicand/format.formats", Rows.laid_radicand_format_formats)] w) (fun _ _ _ hh h => h.of_heap hh) own started (by kernel_rfl) Tryd.func11
    (ChangeSpec.witness_shaped (enc := enc) (C := Tryd.checked) (os := os) (X := fun w _ => laidMetH Tryd.prog [("radicand/format.formats", Rows.laid_radicand_format_formats)] w) false (World.doorLaid Tryd.prog 400 os) #[.int .i64 0, .agg #[.int .u64 0, .int .u64 0], .agg #[.int .u64 0, .int .u64 0]] 8 rfl (World.shaped_of_RefB (by kernel_rfl) (by kernel_rfl)) (by kernel_rfl) (by kernel_rfl) (by kernel_rfl) (door_met os _)) ?_
  intro W base args ds gs before hval0 hW _ _ hL _
  have hval : ∀ (j : Nat) t v, Tryd.f11.params[j]? = some t → args[j]? = some v → Value.okWide Tryd.prog W .any base t v := hval0
  have hW' := hW
  obtain ⟨p, q, hA0, hV, rfl, hfz, hnd⟩ := hW
  have hA : DataW.TrodAll enc Tryd.prog W 0 (fun _ => true) true Tryd.f11.params.toList args.toList ds p := hA0
  rw [Tryd.params11] at hA hval
  obtain ⟨v0, vs0, d0, ds0, p0, q0, hargs, rfl, rfl, h0, r0⟩ := trodAll_cons hA
  obtain ⟨v1, vs1, d1, ds1, p1, q1, rfl, rfl, rfl, h1, r1⟩ := trodAll_cons r0
  obtain ⟨v2, vs2, d2, ds2, p2, q2, rfl, rfl, rfl, h2, r2⟩ := trodAll_cons r1
  obtain ⟨rfl, rfl, rfl⟩ := trodAll_nil r2
  obtain rfl : args = #[v0, v1, v2] := by cases args; simp_all
  obtain ⟨rfl, rfl⟩ := trodVars_none hV
  have k0 := h0
  have lt0 : ∀ x ∈ p0, x.block < W.heap.size := by obtain ⟨m, hm⟩ := k0; exact DataW.trod_lt m _ _ _ hm
  have k1 := h1
  have lt1 : ∀ x ∈ p1, x.block < W.heap.size := by obtain ⟨m, hm⟩ := k1; exact DataW.trod_lt m _ _ _ hm
  have k2 := h2
  have lt2 : ∀ x ∈ p2, x.block < W.heap.size := by obtain ⟨m, hm⟩ := k2; exact DataW.trod_lt m _ _ _ hm
  obtain ⟨a0, rfl, rfl, rfl, wf0⟩ := open_int Tryd.underlying3 (hval 0 3 v0 rfl rfl) h0
  obtain ⟨x1, y1, hx1, hy1, rfl⟩ := word_open (hval 1 24 v1 rfl rfl) h1
  obtain ⟨x2, y2, hx2, hy2, rfl⟩ := word_open (hval 2 24 v2 rfl rfl) h2
  clear hA0 hval0
  have hg := of_laid1 hL
  refine (unpackOrder_all a0 x1 y1 x2 y2 hx1 hy1 hx2 hy2 W hg).mono fun e W' ⟨he, bel⟩ => ?_
  subst he
  exact ⟨_, rfl, _, _, _, [], _, [], hW', trodAll_mk1 (shut_bool Tryd.underlying4 _), (trodAll_cons_mk (Below.trod laidOut (by kernel_rfl) (of_decide_eq_true (by kernel_rfl)) k0 bel lt0) (trodAll_cons_mk (Below.trod laidOut (by kernel_rfl) (of_decide_eq_true (by kernel_rfl)) k1 bel lt1) (trodAll_cons_mk (Below.trod laidOut (by kernel_rfl) (of_decide_eq_true (by kernel_rfl)) k2 bel lt2) trodAll_mk0))), rfl, bel.frame _, fun h => by cases h⟩

theorem over : Rows.unpackOrderRow.holds Tryd.pinned (OpenSpec.ofChange Rows.unpackOrderSpec) :=
  OpenClaim.holds_of_wide 11 Tryd.f11 rfl rfl rfl rfl rfl rfl rfl ⟨rfl, rfl, rfl, rfl, rfl⟩ rfl rfl rfl rfl rfl (by kernel_rfl) Tryd.func11 (by kernel_rfl)
    (of_decide_eq_true (by kernel_rfl)) (by unfold Func.isWrapper; first | (rw [if_pos (by decide +kernel)]; kernel_rfl) | (rw [if_neg (by decide +kernel)]; exact ⟨rfl, rfl⟩))
    (fun os started H enc _ => lifted os started H enc)

theorem proved : Rows.UnpackOrderCardSaid :=
  Claim7.holds_tied_plain_at .later [] [.data] true (true, "9d98287acc8507a5882954404ba6dd5c8d1129bdd2c779bce0d65498184581fc") false
    over (fun _ h => by cases h) (by kernel_rfl) (fun _ h => by cases h) unpackOrder_row_tie rfl ⟨rfl, rfl⟩ (by kernel_rfl) rfl
    (fun f fn hf hfn => by
      obtain rfl : f = 11 := Option.some.inj ((show Tryd.prog.funcNamed "radicand/radicandlaw07.UnpackOrder" = some 11 by kernel_rfl).symm.trans hf) |>.symm
      obtain rfl : fn = Tryd.f11 := (Option.some.inj (Tryd.func11.symm.trans hfn)).symm
      exact ⟨by kernel_rfl, fun j t ht => by
        rw [Tryd.params11] at ht
        rcases j with _ | j
        · obtain rfl : t = 3 := by simpa using ht.symm
          exact (show Tryd.prog.wantsStandIn 3 = false by kernel_rfl)
        rcases j with _ | j
        · obtain rfl : t = 24 := by simpa using ht.symm
          exact (show Tryd.prog.wantsStandIn 24 = false by kernel_rfl)
        rcases j with _ | j
        · obtain rfl : t = 24 := by simpa using ht.symm
          exact (show Tryd.prog.wantsStandIn 24 = false by kernel_rfl)
        simp at ht⟩)
    (by kernel_rfl)
#print axioms proved
end Go.Proofs.YtidfegilddlglaaDoor.unpackOrder

