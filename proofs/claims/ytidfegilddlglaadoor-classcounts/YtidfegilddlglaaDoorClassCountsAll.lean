/- ClassCounts: for every format and every list of words the law returns true. Conditions: those of the tied card (the table of formats is laid as the program lays it). -/
import Derived.Test.YtidfegilddlglaaDoorXCntA
import Derived.Test.YtidfegilddlglaaDoorRows
import Derived.Test.YtidfegilddlglaaDoorTie
import Derived.Test.YtidfegilddlglaaDoorCards
import Derived.LaidMore
import Derived.Stop.Joined
import Derived.SevenTiedAt
import Derived.Test.YtidfegilddlglaaDoorXFmtJ
import Derived.WalkKit
import Derived.ProofKit
import Derived.OpenShut
import Derived.ShutString
import Derived.ChangeOld
import Derived.Below
/- The walk of ClassCounts. -/
set_option linter.unusedVariables false
set_option linter.unusedSimpArgs false
set_option maxRecDepth 8000
namespace Go.Proofs.YtidfegilddlglaaDoor
open Go.RowKit Plain

structure LcSt (g : Nat → Nat) (w W : World) : Prop where
  fm : FmtG W
  l0 : Lies7 W w.heap.size g
  bel : Below w.heap.size w W
theorem LcSt.below {g : Nat → Nat} {w W W' : World} (h : LcSt g w W) (hb : Below W.heap.size W W') : LcSt g w W' :=
  ⟨h.fm.below hb, h.l0.below hb, below_trans h.bel hb⟩
theorem LcSt.set {g g' : Nat → Nat} {w W : World} (hw : 0 < w.heap.size) (h : LcSt g w W) (q : Nat) (hq : q < 7) (he : ∀ j, j ≠ q → g' j = g j) : LcSt g' w (W.setCell ⟨w.heap.size, q, none⟩ (.int .i64 (g' q : Nat))) := by
  have hb := (Below.refl w.heap.size W).setCell (p := ⟨w.heap.size, q, none⟩) (Nat.le_refl _) (.int .i64 (g' q : Nat))
  exact ⟨⟨fun i hi => (hb.cell (p := ⟨0, i, none⟩) hw).trans (h.fm.c i hi), Nat.lt_of_lt_of_le h.fm.lt hb.size⟩, h.l0.set q hq g' he, h.bel.trans (hb.mono (Nat.le_refl _))⟩

theorem classCounts_long (f : Int) (l : List Nat) (v : Value) (w : World) (hr : RdD w v l) (hlen : 60 < l.length) (hg : FmtG w) :
    Calls Tryd.prog 5 #[.int .i64 f, v] w fun e w' => e = .returned (.bool true) ∧ Below w.heap.size w w' := by
  obtain ⟨ao, ca, rfl, hca, hma, -⟩ := hr
  have hln : (60 : Int) < (l.length : Int) := by omega
  go_enter Tryd.func5, Tryd.ntmps5
  go_wp2_with fail
  refine (awake6_any _ hg).mono ?_
  rintro e w1 ⟨rfl, hb1⟩
  go_wp2
  go_ret
  exact ⟨rfl, hb1⟩

set_option maxHeartbeats 4000000 in
theorem classCounts_short (f : Int) (l : List Nat) (ao : Option Addr) (ca n : Nat) (w : World) (HN : Hid (n = l.length)) (hnl : n ≤ 60) (hca : n ≤ ca) (hma : ca ≤ 9223372036854775807)
    (HRA : Hid (n = 0 ∨ ∃ b off, ao = some ⟨b, off, none⟩ ∧ b < w.heap.size ∧ ∀ i, i < n → w.cell? ⟨b, off + i * 2, none⟩ = some (.int .u64 (dgl (dg l i) 1 : Nat)) ∧ w.cell? ⟨b, off + i * 2 + 1, none⟩ = some (.int .u64 (dgl (dg l i) 0 : Nat))))
    (HL : Hid (∀ i, dg l i < 2 ^ 128)) (HG0 : Hid (FmtG w))
    (HCT0 : Hid (∀ W, Below w.heap.size w W → FmtG W → Calls Tryd.prog 33 #[.int .i64 f, .slice ao n ca] W fun e w' => e = .returned (.agg #[.int .i64 (cntN f l n 0 : Nat), .int .i64 (cntN f l n 1 : Nat), .int .i64 (cntN f l n 2 : Nat), .int .i64 (cntN f l n 3 : Nat), .int .i64 (cntN f l n 4 : Nat), .int .i64 (cntN f l n 5 : Nat), .int .i64 (cntN f l n 6 : Nat)]) ∧ Below W.heap.size W w')) :
    Calls Tryd.prog 5 #[.int .i64 f, .slice ao n ca] w fun e w' => e = .returned (.bool true) ∧ Below w.heap.size w w' := by
  have hln : ¬ (60 : Int) < (n : Int) := by omega
  have HS0 : Hid (LcSt (fun _ => 0) w (w.alloc (.cells #[.int .i64 0, .int .i64 0, .int .i64 0, .int .i64 0, .int .i64 0, .int .i64 0, .int .i64 0] 45))) := ⟨HG0.out.below (below_allocs _ _), lies7_new w 45, below_allocs _ _⟩
  have HW0 := hide HG0.out.lt
  go_enter Tryd.func5, Tryd.ntmps5
  go_wp2
  go_loopw [6] (fun i wr => ∃ k : Nat, k ≤ n ∧ i = .int .i64 k ∧ Hid (LcSt (cntN f l k) w wr))
    (fun i _ => n - (intOf i).toNat)
  case atStart => exact ⟨0, by omega, rfl, HS0.out⟩
  case round =>
    clear HS0
    obtain ⟨k, hk, rfl, hst⟩ := hrel
    by_cases hlt : k < n
    · have hj : (k : Int) < (n : Int) := by omega
      rcases unhide HRA with hc | ⟨b, off, rfl, hbl, hcell⟩
      · omega
      · have hck0 := (hst.out.bel.cell (p := ⟨b, off + k * 2, none⟩) hbl).trans (hcell k hlt).1
        have hck1 := (hst.out.bel.cell (p := ⟨b, off + k * 2 + 1, none⟩) hbl).trans (hcell k hlt).2
        have HX := hide (HL.out k)
        have HG : Hid (∀ c, cntN f l (k + 1) c = cntN f l k c + (if clsU f (dg l k) = c then 1 else 0)) := fun c => rfl
        have HLE : Hid (∀ c, cntN f l k c ≤ k) := fun c => cntN_le f l k c
        clear hcell
        generalize dg l k = x at *
        generalize cntN f l k = g at *
        have HS5 := hst
        clear hst
        go_wp2_with fail
        refine (refCls_u f x HX.out _).mono ?_
        rintro e w6 ⟨rfl, hb6⟩
        replace HS5 := hide (HS5.out.below hb6)
        clear hb6 hck0 hck1
        have hcl := clsU_le f x
        generalize clsU f x = c at *
        have hc7 : (c : Int) < 7 := by omega
        have hcell := HS5.out.l0.1 c (by omega)
        have hfr := HS5.out.l0.2.2 c
        have hgc : (g c : Int) < 9223372036854775807 := by have := HLE.out c; omega
        have HNX : Hid (((cntN f l (k + 1) c : Nat) : Int) = (g c : Int) + 1) := by unfold Hid; rw [HG.out c, if_pos rfl]; rfl
        have HOT : Hid (∀ j, j ≠ c → cntN f l (k + 1) j = g j) := fun j hj => by rw [HG.out j, if_neg (fun h => hj h.symm)]; rfl
        go_wp2
        go_roundw
        case rel => exact ⟨k + 1, by omega, by go_num, by rw [← HNX.out]; exact HS5.out.set HW0.out c (by omega) HOT.out⟩
        case measure => simp [intOf]; omega
    · have hk2 : k = n := by omega
      subst hk2
      have hj : ¬ (k : Int) < (k : Int) := by omega
      have HCT : Hid (∀ W, LcSt (cntN f l k) w W → Calls Tryd.prog 33 #[.int .i64 f, .slice ao k ca] W fun e w' => e = .returned (.agg #[.int .i64 (cntN f l k 0 : Nat), .int .i64 (cntN f l k 1 : Nat), .int .i64 (cntN f l k 2 : Nat), .int .i64 (cntN f l k 3 : Nat), .int .i64 (cntN f l k 4 : Nat), .int .i64 (cntN f l k 5 : Nat), .int .i64 (cntN f l k 6 : Nat)]) ∧ Below W.heap.size W w') := fun W h => HCT0.out W h.bel h.fm
      have HS := hst
      clear hst HCT0
      generalize cntN f l k = g at *
      go_upto_region 8 with fail
      refine wp_region_grow 9 [(27, .val (.int .i64 f)), (28, .val (.slice ao k ca)), (29, .val (.agg #[.int .i64 (g 0 : Nat), .int .i64 (g 1 : Nat), .int .i64 (g 2 : Nat), .int .i64 (g 3 : Nat), .int .i64 (g 4 : Nat), .int .i64 (g 5 : Nat), .int .i64 (g 6 : Nat)])), (30, .val (.agg #[.int .i64 (g 0 : Nat), .int .i64 (g 1 : Nat), .int .i64 (g 2 : Nat), .int .i64 (g 3 : Nat), .int .i64 (g 4 : Nat), .int .i64 (g 5 : Nat), .int .i64 (g 6 : Nat)])), (31, .val (.bool true)), (32, .val (.bool true)), (33, .val (.bool true)), (34, .val (.bool true)), (4, .val (.bool true))]
        (fun W => LcSt g w W) mixedOk (by kernel_rfl) (by kernel_rfl) (HS.out.below (Below.refl _ _).drew) (fun W W' h hb => h.below hb) ?_ ?_
      · refine gSt (gStep_run rfl (gRun_move 0 27 (.inl rfl) rfl (by decide +kernel) (fun v w h => h))) ?_
        refine gSt (gStep_run rfl (gRun_move 1 28 (.inl rfl) rfl (by decide +kernel) (fun v w h => h))) ?_
        refine gSt (gStep_run rfl ?_) ?_
        · intro ρ W hC hc hf hL
          have e27 : ρ (.tmp 27) = .int .i64 f := hL 27 (by decide +kernel)
          have e28 : ρ (.tmp 28) = .slice ao k ca := hL 28 (by decide +kernel)
          simp [go_sem, hc, hf, e27, e28]
          refine (HCT.out W hC).mono ?_
          rintro e w' ⟨rfl, hb⟩
          exact ⟨_, rfl, by first | exact hb | (subst hb; exact Below.refl _ _), rfl⟩
        refine gSt (gStep_run rfl ?_) ?_
        · intro ρ W hC hc hf hL
          have e5 : ρ (.tmp 5) = .pointer (some ⟨w.heap.size, 0, none⟩) := hL 5 (by decide +kernel)
          have hl := hC.l0.1
          simp [go_sem, hc, hf, e5, hl]
          exact ⟨Below.refl _ _, rfl⟩
        refine gSt (gStep_run rfl ?_) ?_
        · intro ρ W hC hc hf hL
          have e29 : ρ (.tmp 29) = .agg #[.int .i64 (g 0 : Nat), .int .i64 (g 1 : Nat), .int .i64 (g 2 : Nat), .int .i64 (g 3 : Nat), .int .i64 (g 4 : Nat), .int .i64 (g 5 : Nat), .int .i64 (g 6 : Nat)] := hL 29 (by decide +kernel)
          have e30 : ρ (.tmp 30) = .agg #[.int .i64 (g 0 : Nat), .int .i64 (g 1 : Nat), .int .i64 (g 2 : Nat), .int .i64 (g 3 : Nat), .int .i64 (g 4 : Nat), .int .i64 (g 5 : Nat), .int .i64 (g 6 : Nat)] := hL 30 (by decide +kernel)
          have hl := fun w => ints7_same g w
          simp [go_sem, hc, hf, e29, e30, hl]
          exact ⟨Below.refl _ _, rfl⟩
        refine gSt (gStep_run rfl (gRun_move 31 32 (.inl rfl) rfl (by decide +kernel) (fun v w h => h))) ?_
        refine gSt (gStep_on 5 32 true rfl rfl (by decide +kernel) (fun v w h => h) ?_) ?_
        · intro ρ W hC hc hf hL
          simp [go_sem, hc, hf]
          refine (awake6_any _ hC.fm).mono ?_
          rintro e w' ⟨rfl, hb⟩
          exact ⟨_, rfl, by first | exact hb | (subst hb; exact Below.refl _ _), rfl⟩
        refine gSt (gStep_run rfl (gRun_pickT 32 33 34 _ rfl rfl (by decide +kernel) (by decide +kernel) (fun v w h => h) (fun v w h => h))) ?_
        refine gSt (gStep_run rfl (gRun_move 34 4 (.inr rfl) rfl (by decide +kernel) (fun v w h => h))) ?_
        exact gSt0
      · intro W hC
        refine gFi 27 rfl ?_
        rintro _ rfl
        refine gFi 28 rfl ?_
        rintro _ rfl
        refine gFi 29 rfl ?_
        rintro _ rfl
        refine gFi 30 rfl ?_
        rintro _ rfl
        refine gFi 31 rfl ?_
        rintro _ rfl
        refine gFi 32 rfl ?_
        rintro _ rfl
        refine gFi 33 rfl ?_
        rintro _ rfl
        refine gFi 34 rfl ?_
        rintro _ rfl
        refine gFi 4 rfl ?_
        rintro _ rfl
        refine gFi0 ?_
        simp only [List.drop_succ_cons, List.drop_zero, Act.put, List.setIfInBounds_toArray, List.set_cons_succ, List.set_cons_zero]
        have HB0 := hide hC.bel
        clear hC HS
        go_wp2
        go_ret
        exact ⟨rfl, HB0.out⟩

theorem classCounts_all (f : Int) (l : List Nat) (v : Value) (w : World) (hr : RdD w v l) (hl : ∀ i, dg l i < 2 ^ 128) (hg : FmtG w) :
    Calls Tryd.prog 5 #[.int .i64 f, v] w fun e w' => e = .returned (.bool true) ∧ Below w.heap.size w w' := by
  by_cases hlen : 60 < l.length
  · exact classCounts_long f l v w hr hlen hg
  · have hr0 := hr
    obtain ⟨ao, ca, rfl, hca, hma, hra⟩ := hr
    exact classCounts_short f l ao ca l.length w rfl (by omega) hca (by unfold maxLen at hma; omega) hra hl hg (fun W hb hG => ccount_any f l _ W (hr0.below hb) hl hG)

end Go.Proofs.YtidfegilddlglaaDoor

/- ClassCounts: for every format and every list of words the law returns true. Conditions: those of the tied card (the table of formats is laid as the program lays it). -/
namespace Go.Proofs.YtidfegilddlglaaDoor.classCounts
open Go.ChangeShapes Go.WideShapes Go.ChangeAt Go.RowKit Go.Proofs.YtidfegilddlglaaDoor

theorem own : ownKnob Tryd.prog.godebug = none := by kernel_rfl
theorem laidOut : laidOutB Tryd.prog = true := by kernel_rfl

theorem door_met (os : Os) (args : Array Value) : laidMetH Tryd.prog [("radicand/format.formats", Rows.laid_radicand_format_formats)] ((World.doorLaid Tryd.prog 400 os).forCall (fun _ _ => 0) ⟨#[], args, []⟩).memory :=
  laidMetH_of_parts3 (fuel := 8) (laidMet_of_run' 8 (by kernel_rfl) (by kernel_rfl)) (by kernel_rfl) (by kernel_rfl)

set_option maxRecDepth 100000 in
theorem lifted (os : Os) (started : os.Started) (H : Type) (enc : TypeId × Value → H) :
    ReturnsInHanded {} Tryd.checked os 5 .any (fun w args => (Rows.classCountsSpec.pre enc Tryd.prog Tryd.f5 [] false w args ∧ laidMetH Tryd.prog [("radicand/format.formats", Rows.laid_radicand_format_formats)] w) ∧ sizedMet enc Tryd.prog Tryd.f5 (OpenSpec.ofChange Rows.classCountsSpec) false w args) (Rows.classCountsSpec.post enc Tryd.prog Tryd.f5 false true false false) := by
  refine returnsInHanded_of_change_and (C := Tryd.checked) (X := fun w _ => laidMetH Tryd.prog [("radicand/format.formats", Rows.laid_radicand_format_formats)] w) (fun _ _ _ hh h => h.of_heap hh) own started (by kernel_rfl) Tryd.func5
    (ChangeSpec.witness_shaped (enc := enc) (C := Tryd.checked) (os := os) (X := fun w _ => laidMetH Tryd.prog [("radicand/format.formats", Rows.laid_radicand_format_formats)] w) false (World.doorLaid Tryd.prog 400 os) #[.int .i64 0, .slice none 0 0] 8 rfl (World.shaped_of_RefB (by kernel_rfl) (by kernel_rfl)) (by kernel_rfl) (by kernel_rfl) (by kernel_rfl) (door_met os _)) ?_
  intro W base args ds gs before hval0 hW _ _ hL _
  have hval : ∀ (j : Nat) t v, Tryd.f5.params[j]? = some t → args[j]? = some v → Value.okWide Tryd.prog W .any base t v := hval0
  have hW' := hW
  obtain ⟨p, q, hA0, hV, rfl, hfz, hnd⟩ := hW
  have hA : DataW.TrodAll enc Tryd.prog W 0 (fun _ => true) true Tryd.f5.params.toList args.toList ds p := hA0
  rw [Tryd.params5] at hA hval
  obtain ⟨v0, vs0, d0, ds0, p0, q0, hargs, rfl, rfl, h0, r0⟩ := trodAll_cons hA
  obtain ⟨v1, vs1, d1, ds1, p1, q1, rfl, rfl, rfl, h1, r1⟩ := trodAll_cons r0
  obtain ⟨rfl, rfl, rfl⟩ := trodAll_nil r1
  obtain rfl : args = #[v0, v1] := by cases args; simp_all
  obtain ⟨rfl, rfl⟩ := trodVars_none hV
  have k0 := h0
  have lt0 : ∀ x ∈ p0, x.block < W.heap.size := by obtain ⟨m, hm⟩ := k0; exact DataW.trod_lt m _ _ _ hm
  have k1 := h1
  have lt1 : ∀ x ∈ p1, x.block < W.heap.size := by obtain ⟨m, hm⟩ := k1; exact DataW.trod_lt m _ _ _ hm
  obtain ⟨a0, rfl, rfl, rfl, wf0⟩ := open_int Tryd.underlying3 (hval 0 3 v0 rfl rfl) h0
  obtain ⟨l1, rd1, dig1⟩ := words_of_trod (hval 1 44 v1 rfl rfl) h1
  clear hA0 hval0
  have hg := of_laid1 hL
  refine (classCounts_all a0 l1 _ W rd1 dig1 hg).mono fun e W' ⟨he, bel⟩ => ?_
  subst he
  exact ⟨_, rfl, _, _, _, [], _, [], hW', trodAll_mk1 (shut_bool Tryd.underlying4 _), (trodAll_cons_mk (Below.trod laidOut (by kernel_rfl) (of_decide_eq_true (by kernel_rfl)) k0 bel lt0) (trodAll_cons_mk (Below.trod laidOut (by kernel_rfl) (of_decide_eq_true (by kernel_rfl)) k1 bel lt1) trodAll_mk0)), rfl, bel.frame _, fun h => by cases h⟩

theorem over : Rows.classCountsRow.holds Tryd.pinned (OpenSpec.ofChange Rows.classCountsSpec) :=
  OpenClaim.holds_of_wide 5 Tryd.f5 rfl rfl rfl rfl rfl rfl rfl ⟨rfl, rfl, rfl, rfl, rfl⟩ rfl rfl rfl rfl rfl (by kernel_rfl) Tryd.func5 (by kernel_rfl)
    (of_decide_eq_true (by kernel_rfl)) (by unfold Func.isWrapper; first | (rw [if_pos (by decide +kernel)]; kernel_rfl) | (rw [if_neg (by decide +kernel)]; exact ⟨rfl, rfl⟩))
    (fun os started H enc _ => lifted os started H enc)

theorem proved : Rows.ClassCountsCardSaid :=
  Claim7.holds_tied_plain_at .later [] [.data] true (true, "9d98287acc8507a5882954404ba6dd5c8d1129bdd2c779bce0d65498184581fc") false
    over (fun _ h => by cases h) (by kernel_rfl) (fun _ h => by cases h) classCounts_row_tie rfl ⟨rfl, rfl⟩ (by kernel_rfl) rfl
    (fun f fn hf hfn => by
      obtain rfl : f = 5 := Option.some.inj ((show Tryd.prog.funcNamed "radicand/radicandlaw06.ClassCounts" = some 5 by kernel_rfl).symm.trans hf) |>.symm
      obtain rfl : fn = Tryd.f5 := (Option.some.inj (Tryd.func5.symm.trans hfn)).symm
      exact ⟨by kernel_rfl, fun j t ht => by
        rw [Tryd.params5] at ht
        rcases j with _ | j
        · obtain rfl : t = 3 := by simpa using ht.symm
          exact (show Tryd.prog.wantsStandIn 3 = false by kernel_rfl)
        rcases j with _ | j
        · obtain rfl : t = 44 := by simpa using ht.symm
          exact (show Tryd.prog.wantsStandIn 44 = false by kernel_rfl)
        simp at ht⟩)
    (by kernel_rfl)
#print axioms proved
end Go.Proofs.YtidfegilddlglaaDoor.classCounts

