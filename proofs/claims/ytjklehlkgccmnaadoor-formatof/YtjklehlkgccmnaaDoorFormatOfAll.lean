/- FormatOf: for every f the law returns true. Conditions: those of the tied card (the tables of formats and of names are laid as the program lays them). -/
import Derived.Test.YtjklehlkgccmnaaDoorXFmtF
import Derived.Test.YtjklehlkgccmnaaDoorRows
import Derived.Test.YtjklehlkgccmnaaDoorTie
import Derived.Test.YtjklehlkgccmnaaDoorCards
import Derived.LaidMore
import Derived.Stop.Joined
import Derived.SevenTiedAt
import Derived.Test.YtjklehlkgccmnaaDoorXFmtG
import Derived.WalkKit
import Derived.ProofKit
import Derived.OpenShut
import Derived.ShutString
import Derived.ChangeOld
import Derived.Below
/- The walk of FormatOf. -/
set_option linter.unusedVariables false
set_option linter.unusedSimpArgs false
set_option maxRecDepth 8000
namespace Go.Proofs.YtjklehlkgccmnaaDoor
open Go.RowKit Plain

theorem fmt_same (x0 x1 x2 x3 x4 : Int) (w : World) :
    (Op.equalIn 10000 23 (.agg #[.int .i64 x0, .int .i64 x1, .int .i64 x2, .int .i64 x3, .int .i64 x4]) (.agg #[.int .i64 x0, .int .i64 x1, .int .i64 x2, .int .i64 x3, .int .i64 x4])).run Tryd.prog w = .ok true w := by
  have u3 := Tryd.underlying3
  have uw := Tryd.underlying23
  rw [show (10000 : Nat) = 9999 + 1 from rfl]
  go_simp
/-- The law's own names. -/
def nam5 : List (List UInt8) := [[], [98, 105, 110, 97, 114, 121, 49, 54], [98, 105, 110, 97, 114, 121, 51, 50], [98, 105, 110, 97, 114, 121, 54, 52], [98, 105, 110, 97, 114, 121, 49, 50, 56]]
structure OfSt (p q : Nat) (w : World) (k : Nat → Int) (W : World) : Prop where
  g : FmtG W
  n : NamG W
  rk : ∀ i, i < 5 → W.cell? ⟨p, i, none⟩ = some (.int .i64 (k i))
  lk : p < W.heap.size
  sk : ∀ i, i < 5 → W.cell? ⟨q, i, none⟩ = some (.string ⟨(nam5.getD i []).toArray⟩)
  lq : q < W.heap.size
  bel : Below w.heap.size w W
theorem OfSt.below {p q : Nat} {w : World} {k : Nat → Int} {W W' : World} (h : OfSt p q w k W) (hb : Below W.heap.size W W') : OfSt p q w k W' :=
  ⟨h.g.below hb, h.n.below hb, fun i hi => (hb.cell (p := ⟨p, i, none⟩) h.lk).trans (h.rk i hi), Nat.lt_of_lt_of_le h.lk hb.size,
    fun i hi => (hb.cell (p := ⟨q, i, none⟩) h.lq).trans (h.sk i hi), Nat.lt_of_lt_of_le h.lq hb.size, below_trans h.bel hb⟩
theorem ofSt_start (k : Nat → Int) (w w1 : World) (hg : FmtG w1) (hn : NamG w1) (hb : Below w.heap.size w w1) : OfSt w1.heap.size (w1.heap.size + 1) w k ((w1.alloc (.cells #[.int .i64 (k 0), .int .i64 (k 1), .int .i64 (k 2), .int .i64 (k 3), .int .i64 (k 4)] 23)).alloc (.cells #[.string ⟨#[]⟩, .string ⟨#[98, 105, 110, 97, 114, 121, 49, 54]⟩, .string ⟨#[98, 105, 110, 97, 114, 121, 51, 50]⟩, .string ⟨#[98, 105, 110, 97, 114, 121, 54, 52]⟩, .string ⟨#[98, 105, 110, 97, 114, 121, 49, 50, 56]⟩] 9)) := by
  have h1 := below_allocs w1 (.cells #[.int .i64 (k 0), .int .i64 (k 1), .int .i64 (k 2), .int .i64 (k 3), .int .i64 (k 4)] 23)
  have h2 := below_allocs (w1.alloc (.cells #[.int .i64 (k 0), .int .i64 (k 1), .int .i64 (k 2), .int .i64 (k 3), .int .i64 (k 4)] 23)) (.cells #[.string ⟨#[]⟩, .string ⟨#[98, 105, 110, 97, 114, 121, 49, 54]⟩, .string ⟨#[98, 105, 110, 97, 114, 121, 51, 50]⟩, .string ⟨#[98, 105, 110, 97, 114, 121, 54, 52]⟩, .string ⟨#[98, 105, 110, 97, 114, 121, 49, 50, 56]⟩] 9)
  have h3 := below_trans h1 h2
  refine ⟨hg.below h3, hn.below h3, fun i hi => (h2.cell (p := ⟨w1.heap.size, i, none⟩) (by simp)).trans (rec5_new w1 k _ i hi), by simp; omega, fun i hi => ?_, by simp, below_trans hb h3⟩
  match i, hi with
  | 0, _ | 1, _ | 2, _ | 3, _ | 4, _ => simp [go_sem, nam5]

set_option maxHeartbeats 1000000 in
theorem formatOf_none (f : Int) (h : f < 1 ∨ 4 < f) (w : World) (hg : FmtG w) : Calls Tryd.prog 3 #[.int .i64 f] w fun e w' => e = .returned (.bool true) ∧ Below w.heap.size w w' := by
  have HO := hide (fun w => of_none f h w)
  have HI := hide (fun w => is_none f h w)
  have HN := hide (fun w => name_none f h w)
  have HG := hide hg
  have hs := fun w => fmt_same 0 0 0 0 0 w
  clear h hg
  go_enter Tryd.func3, Tryd.ntmps3
  go_wp2_with fail
  refine (HO.out _).mono ?_
  rintro e w1 ⟨rfl, hb1⟩
  have HB := hide (below_trans hb1 (below_allocs w1 (.cells #[.int .i64 0, .int .i64 0, .int .i64 0, .int .i64 0, .int .i64 0] 23)))
  replace HG := hide (HG.out.below HB.out)
  clear hb1
  go_wp2_with fail
  refine (HI.out _).mono ?_
  rintro e w2 ⟨rfl, hw⟩
  subst w2
  go_wp2_with fail
  refine (HN.out _).mono ?_
  rintro e w2 ⟨rfl, hw⟩
  subst w2
  go_wp2_with fail
  refine (awake5_any _ HG.out).mono ?_
  rintro e w2 ⟨rfl, hb2⟩
  replace HB := hide (below_trans HB.out hb2)
  clear hb2
  go_wp2
  go_ret
  exact ⟨rfl, HB.out⟩

set_option maxHeartbeats 2000000 in
theorem formatOf_1 (w : World) (hg : FmtG w) (hn : NamG w) : Calls Tryd.prog 3 #[.int .i64 1] w fun e w' => e = .returned (.bool true) ∧ Below w.heap.size w w' := by
  have HG := hide hg
  have HN := hide hn
  clear hg hn
  go_enter Tryd.func3, Tryd.ntmps3
  go_wp2_with fail
  refine (of_1 _ HG.out).mono ?_
  rintro e w1 ⟨rfl, hb1⟩
  have HST := hide (ofSt_start (fun i => [16, 11, 15, -14, 5].getD i 0) w w1 (HG.out.below hb1) (HN.out.below hb1) hb1)
  clear hb1 HG HN
  go_wp2_with fail
  refine (is_1 _).mono ?_
  rintro e w2 ⟨rfl, hw⟩
  subst w2
  go_wp2_with fail
  refine (byName_1 ⟨#[98, 105, 110, 97, 114, 121, 49, 54]⟩ (by decide +kernel) _ HST.out.n).mono ?_
  rintro e w2 ⟨rfl, hw⟩
  subst w2
  go_upto_region 6 with fail
  refine wp_gen (fun W => OfSt w1.heap.size (w1.heap.size + 1) w (fun i => [16, 11, 15, -14, 5].getD i 0) W) HST.out ?_
  clear HST
  rintro W1 h1
  generalize w1.heap.size + 1 = q at *
  generalize w1.heap.size = p at *
  refine wp_region_grow 36 [(40, .val (.bool true)), (41, .val (.bool true)), (42, .val (.agg #[.int .i64 16, .int .i64 11, .int .i64 15, .int .i64 (-14), .int .i64 5])), (43, .val (.int .i64 1)), (44, .val (.int .i64 16)), (45, .val (.int .i64 1)), (46, .val (.int .i64 11)), (47, .val (.int .i64 1)), (48, .val (.int .i64 15)), (49, .val (.int .i64 1)), (50, .val (.int .i64 (-14))), (51, .val (.int .i64 1)), (52, .val (.int .i64 5)), (53, .val (.agg #[.int .i64 16, .int .i64 11, .int .i64 15, .int .i64 (-14), .int .i64 5])), (54, .val (.bool true)), (55, .val (.bool true)), (56, .val (.bool true)), (57, .val (.int .i64 1)), (58, .val (.string ⟨#[98, 105, 110, 97, 114, 121, 49, 54]⟩)), (59, .val (.slice (some ⟨q, 0, none⟩) 5 5)), (60, .val (.int .i64 1)), (61, .val (.pointer (some ⟨q, 1, none⟩))), (62, .val (.string ⟨#[98, 105, 110, 97, 114, 121, 49, 54]⟩)), (63, .val (.bool true)), (64, .val (.bool true)), (65, .val (.bool true)), (66, .val (.int .i64 1)), (67, .val (.int .i64 1)), (68, .val (.bool true)), (69, .val (.bool true)), (70, .val (.bool true)), (71, .val (.bool true)), (72, .val (.bool true)), (73, .val (.bool true)), (74, .val (.bool true)), (75, .val (.bool true))]
    (fun W => OfSt p q w (fun i => [16, 11, 15, -14, 5].getD i 0) W) mixedOk (by kernel_rfl) (by kernel_rfl) (h1.below (Below.refl _ _).drew) (fun W W' h hb => h.below hb) ?_ ?_
  · refine gSt (gStep_run rfl (gRun_move 4 40 (.inl rfl) rfl (by decide +kernel) (fun v w h => h))) ?_
    refine gSt (gStep_run rfl (gRun_move 40 41 (.inl rfl) rfl (by decide +kernel) (fun v w h => h))) ?_
    refine gSt (gStep_on 1 41 true rfl rfl (by decide +kernel) (fun v w h => h) ?_) ?_
    · intro ρ W hC hc hf hL
      have e3 : ρ (.tmp 3) = .pointer (some ⟨p, 0, none⟩) := hL 3 (by decide +kernel)
      have hl0 : W.cell? ⟨p, 0, none⟩ = some (.int .i64 16) := hC.rk 0 (by decide)
      have hl1 : W.cell? ⟨p, 1, none⟩ = some (.int .i64 11) := hC.rk 1 (by decide)
      have hl2 : W.cell? ⟨p, 2, none⟩ = some (.int .i64 15) := hC.rk 2 (by decide)
      have hl3 : W.cell? ⟨p, 3, none⟩ = some (.int .i64 (-14)) := hC.rk 3 (by decide)
      have hl4 : W.cell? ⟨p, 4, none⟩ = some (.int .i64 5) := hC.rk 4 (by decide)
      simp [go_sem, hc, hf, e3, hl0, hl1, hl2, hl3, hl4]
      exact ⟨Below.refl _ _, rfl⟩
    refine gSt (gStep_on 1 41 true rfl rfl (by decide +kernel) (fun v w h => h) (gRun_move 0 43 (.inl rfl) rfl (by decide +kernel) (fun v w h => h))) ?_
    refine gSt (gStep_on 1 41 true rfl rfl (by decide +kernel) (fun v w h => h) ?_) ?_
    · intro ρ W hC hc hf hL
      have e43 : ρ (.tmp 43) = .int .i64 1 := hL 43 (by decide +kernel)
      simp [go_sem, hc, hf, e43]
      refine (bits_1 W).mono ?_
      rintro e w' ⟨rfl, hb⟩
      exact ⟨_, rfl, by first | exact hb | (subst hb; exact Below.refl _ _), rfl⟩
    refine gSt (gStep_on 1 41 true rfl rfl (by decide +kernel) (fun v w h => h) (gRun_move 0 45 (.inl rfl) rfl (by decide +kernel) (fun v w h => h))) ?_
    refine gSt (gStep_on 1 41 true rfl rfl (by decide +kernel) (fun v w h => h) ?_) ?_
    · intro ρ W hC hc hf hL
      have e45 : ρ (.tmp 45) = .int .i64 1 := hL 45 (by decide +kernel)
      simp [go_sem, hc, hf, e45]
      refine (prec_1 W).mono ?_
      rintro e w' ⟨rfl, hb⟩
      exact ⟨_, rfl, by first | exact hb | (subst hb; exact Below.refl _ _), rfl⟩
    refine gSt (gStep_on 1 41 true rfl rfl (by decide +kernel) (fun v w h => h) (gRun_move 0 47 (.inl rfl) rfl (by decide +kernel) (fun v w h => h))) ?_
    refine gSt (gStep_on 1 41 true rfl rfl (by decide +kernel) (fun v w h => h) ?_) ?_
    · intro ρ W hC hc hf hL
      have e47 : ρ (.tmp 47) = .int .i64 1 := hL 47 (by decide +kernel)
      simp [go_sem, hc, hf, e47]
      refine (emax_1 W).mono ?_
      rintro e w' ⟨rfl, hb⟩
      exact ⟨_, rfl, by first | exact hb | (subst hb; exact Below.refl _ _), rfl⟩
    refine gSt (gStep_on 1 41 true rfl rfl (by decide +kernel) (fun v w h => h) (gRun_move 0 49 (.inl rfl) rfl (by decide +kernel) (fun v w h => h))) ?_
    refine gSt (gStep_on 1 41 true rfl rfl (by decide +kernel) (fun v w h => h) ?_) ?_
    · intro ρ W hC hc hf hL
      have e49 : ρ (.tmp 49) = .int .i64 1 := hL 49 (by decide +kernel)
      simp [go_sem, hc, hf, e49]
      refine (emin_1 W).mono ?_
      rintro e w' ⟨rfl, hb⟩
      exact ⟨_, rfl, by first | exact hb | (subst hb; exact Below.refl _ _), rfl⟩
    refine gSt (gStep_on 1 41 true rfl rfl (by decide +kernel) (fun v w h => h) (gRun_move 0 51 (.inl rfl) rfl (by decide +kernel) (fun v w h => h))) ?_
    refine gSt (gStep_on 1 41 true rfl rfl (by decide +kernel) (fun v w h => h) ?_) ?_
    · intro ρ W hC hc hf hL
      have e51 : ρ (.tmp 51) = .int .i64 1 := hL 51 (by decide +kernel)
      simp [go_sem, hc, hf, e51]
      refine (field_1 W).mono ?_
      rintro e w' ⟨rfl, hb⟩
      exact ⟨_, rfl, by first | exact hb | (subst hb; exact Below.refl _ _), rfl⟩
    refine gSt (gStep_on 1 41 true rfl rfl (by decide +kernel) (fun v w h => h) ?_) ?_
    · intro ρ W hC hc hf hL
      have e44 : ρ (.tmp 44) = .int .i64 16 := hL 44 (by decide +kernel)
      have e46 : ρ (.tmp 46) = .int .i64 11 := hL 46 (by decide +kernel)
      have e48 : ρ (.tmp 48) = .int .i64 15 := hL 48 (by decide +kernel)
      have e50 : ρ (.tmp 50) = .int .i64 (-14) := hL 50 (by decide +kernel)
      have e52 : ρ (.tmp 52) = .int .i64 5 := hL 52 (by decide +kernel)
      simp [go_sem, hc, hf, e44, e46, e48, e50, e52]
      exact ⟨Below.refl _ _, rfl⟩
    refine gSt (gStep_on 1 41 true rfl rfl (by decide +kernel) (fun v w h => h) ?_) ?_
    · intro ρ W hC hc hf hL
      have e42 : ρ (.tmp 42) = .agg #[.int .i64 16, .int .i64 11, .int .i64 15, .int .i64 (-14), .int .i64 5] := hL 42 (by decide +kernel)
      have e53 : ρ (.tmp 53) = .agg #[.int .i64 16, .int .i64 11, .int .i64 15, .int .i64 (-14), .int .i64 5] := hL 53 (by decide +kernel)
      have hl := fun w => fmt_same (16) (11) (15) (-14) (5) w
      simp [go_sem, hc, hf, e42, e53, hl]
      exact ⟨Below.refl _ _, rfl⟩
    refine gSt (gStep_run rfl (gRun_pickT 41 54 55 _ rfl rfl (by decide +kernel) (by decide +kernel) (fun v w h => h) (fun v w h => h))) ?_
    refine gSt (gStep_run rfl (gRun_move 55 56 (.inl rfl) rfl (by decide +kernel) (fun v w h => h))) ?_
    refine gSt (gStep_on 16 56 true rfl rfl (by decide +kernel) (fun v w h => h) (gRun_move 0 57 (.inl rfl) rfl (by decide +kernel) (fun v w h => h))) ?_
    refine gSt (gStep_on 16 56 true rfl rfl (by decide +kernel) (fun v w h => h) ?_) ?_
    · intro ρ W hC hc hf hL
      have e57 : ρ (.tmp 57) = .int .i64 1 := hL 57 (by decide +kernel)
      simp [go_sem, hc, hf, e57]
      refine (name_1 W hC.n).mono ?_
      rintro e w' ⟨rfl, hb⟩
      exact ⟨_, rfl, by first | exact hb | (subst hb; exact Below.refl _ _), rfl⟩
    refine gSt (gStep_on 16 56 true rfl rfl (by decide +kernel) (fun v w h => h) (gRun_move 5 59 (.inl rfl) rfl (by decide +kernel) (fun v w h => h))) ?_
    refine gSt (gStep_on 16 56 true rfl rfl (by decide +kernel) (fun v w h => h) (gRun_move 0 60 (.inl rfl) rfl (by decide +kernel) (fun v w h => h))) ?_
    refine gSt (gStep_on 16 56 true rfl rfl (by decide +kernel) (fun v w h => h) ?_) ?_
    · intro ρ W hC hc hf hL
      have e59 : ρ (.tmp 59) = .slice (some ⟨q, 0, none⟩) 5 5 := hL 59 (by decide +kernel)
      have e60 : ρ (.tmp 60) = .int .i64 1 := hL 60 (by decide +kernel)
      simp [go_sem, hc, hf, e59, e60]
      exact ⟨Below.refl _ _, rfl⟩
    refine gSt (gStep_on 16 56 true rfl rfl (by decide +kernel) (fun v w h => h) ?_) ?_
    · intro ρ W hC hc hf hL
      have e61 : ρ (.tmp 61) = .pointer (some ⟨q, 1, none⟩) := hL 61 (by decide +kernel)
      have hl : W.cell? ⟨q, 1, none⟩ = some (.string ⟨#[98, 105, 110, 97, 114, 121, 49, 54]⟩) := hC.sk 1 (by decide)
      simp [go_sem, hc, hf, e61, hl]
      exact ⟨Below.refl _ _, rfl⟩
    refine gSt (gStep_on 16 56 true rfl rfl (by decide +kernel) (fun v w h => h) ?_) ?_
    · intro ρ W hC hc hf hL
      have e58 : ρ (.tmp 58) = .string ⟨#[98, 105, 110, 97, 114, 121, 49, 54]⟩ := hL 58 (by decide +kernel)
      have e62 : ρ (.tmp 62) = .string ⟨#[98, 105, 110, 97, 114, 121, 49, 54]⟩ := hL 62 (by decide +kernel)
      simp [go_sem, hc, hf, e58, e62]
      exact ⟨Below.refl _ _, rfl⟩
    refine gSt (gStep_run rfl (gRun_pickT 56 63 64 _ rfl rfl (by decide +kernel) (by decide +kernel) (fun v w h => h) (fun v w h => h))) ?_
    refine gSt (gStep_run rfl (gRun_move 64 65 (.inl rfl) rfl (by decide +kernel) (fun v w h => h))) ?_
    refine gSt (gStep_on 25 65 true rfl rfl (by decide +kernel) (fun v w h => h) (gRun_move 6 66 (.inl rfl) rfl (by decide +kernel) (fun v w h => h))) ?_
    refine gSt (gStep_on 25 65 true rfl rfl (by decide +kernel) (fun v w h => h) (gRun_move 0 67 (.inl rfl) rfl (by decide +kernel) (fun v w h => h))) ?_
    refine gSt (gStep_on 25 65 true rfl rfl (by decide +kernel) (fun v w h => h) ?_) ?_
    · intro ρ W hC hc hf hL
      have e66 : ρ (.tmp 66) = .int .i64 1 := hL 66 (by decide +kernel)
      have e67 : ρ (.tmp 67) = .int .i64 1 := hL 67 (by decide +kernel)
      simp [go_sem, hc, hf, e66, e67]
      exact ⟨Below.refl _ _, rfl⟩
    refine gSt (gStep_run rfl (gRun_pickT 65 68 69 _ rfl rfl (by decide +kernel) (by decide +kernel) (fun v w h => h) (fun v w h => h))) ?_
    refine gSt (gStep_run rfl (gRun_move 69 70 (.inl rfl) rfl (by decide +kernel) (fun v w h => h))) ?_
    refine gSt (gStep_on 30 70 true rfl rfl (by decide +kernel) (fun v w h => h) (gRun_move 7 71 (.inl rfl) rfl (by decide +kernel) (fun v w h => h))) ?_
    refine gSt (gStep_run rfl (gRun_pickT 70 71 72 _ rfl rfl (by decide +kernel) (by decide +kernel) (fun v w h => h) (fun v w h => h))) ?_
    refine gSt (gStep_run rfl (gRun_move 72 73 (.inl rfl) rfl (by decide +kernel) (fun v w h => h))) ?_
    refine gSt (gStep_on 33 73 true rfl rfl (by decide +kernel) (fun v w h => h) ?_) ?_
    · intro ρ W hC hc hf hL
      simp [go_sem, hc, hf]
      refine (awake5_any W hC.g).mono ?_
      rintro e w' ⟨rfl, hb⟩
      exact ⟨_, rfl, by first | exact hb | (subst hb; exact Below.refl _ _), rfl⟩
    refine gSt (gStep_run rfl (gRun_pickT 73 74 75 _ rfl rfl (by decide +kernel) (by decide +kernel) (fun v w h => h) (fun v w h => h))) ?_
    exact gSt0
  · intro W hC
    refine gFi 40 rfl ?_
    rintro _ rfl
    refine gFi 41 rfl ?_
    rintro _ rfl
    refine gFi 42 rfl ?_
    rintro _ rfl
    refine gFi 43 rfl ?_
    rintro _ rfl
    refine gFi 44 rfl ?_
    rintro _ rfl
    refine gFi 45 rfl ?_
    rintro _ rfl
    refine gFi 46 rfl ?_
    rintro _ rfl
    refine gFi 47 rfl ?_
    rintro _ rfl
    refine gFi 48 rfl ?_
    rintro _ rfl
    refine gFi 49 rfl ?_
    rintro _ rfl
    refine gFi 50 rfl ?_
    rintro _ rfl
    refine gFi 51 rfl ?_
    rintro _ rfl
    refine gFi 52 rfl ?_
    rintro _ rfl
    refine gFi 53 rfl ?_
    rintro _ rfl
    refine gFi 54 rfl ?_
    rintro _ rfl
    refine gFi 55 rfl ?_
    rintro _ rfl
    refine gFi 56 rfl ?_
    rintro _ rfl
    refine gFi 57 rfl ?_
    rintro _ rfl
    refine gFi 58 rfl ?_
    rintro _ rfl
    refine gFi 59 rfl ?_
    rintro _ rfl
    refine gFi 60 rfl ?_
    rintro _ rfl
    refine gFi 61 rfl ?_
    rintro _ rfl
    refine gFi 62 rfl ?_
    rintro _ rfl
    refine gFi 63 rfl ?_
    rintro _ rfl
    refine gFi 64 rfl ?_
    rintro _ rfl
    refine gFi 65 rfl ?_
    rintro _ rfl
    refine gFi 66 rfl ?_
    rintro _ rfl
    refine gFi 67 rfl ?_
    rintro _ rfl
    refine gFi 68 rfl ?_
    rintro _ rfl
    refine gFi 69 rfl ?_
    rintro _ rfl
    refine gFi 70 rfl ?_
    rintro _ rfl
    refine gFi 71 rfl ?_
    rintro _ rfl
    refine gFi 72 rfl ?_
    rintro _ rfl
    refine gFi 73 rfl ?_
    rintro _ rfl
    refine gFi 74 rfl ?_
    rintro _ rfl
    refine gFi 75 rfl ?_
    rintro _ rfl
    refine gFi0 ?_
    simp only [List.drop_succ_cons, List.drop_zero, Act.put, List.setIfInBounds_toArray, List.set_cons_succ, List.set_cons_zero]
    have HB := hide hC.bel
    clear hC h1
    go_wp2
    go_ret
    exact ⟨rfl, HB.out⟩

set_option maxHeartbeats 2000000 in
theorem formatOf_2 (w : World) (hg : FmtG w) (hn : NamG w) : Calls Tryd.prog 3 #[.int .i64 2] w fun e w' => e = .returned (.bool true) ∧ Below w.heap.size w w' := by
  have HG := hide hg
  have HN := hide hn
  clear hg hn
  go_enter Tryd.func3, Tryd.ntmps3
  go_wp2_with fail
  refine (of_2 _ HG.out).mono ?_
  rintro e w1 ⟨rfl, hb1⟩
  have HST := hide (ofSt_start (fun i => [32, 24, 127, -126, 8].getD i 0) w w1 (HG.out.below hb1) (HN.out.below hb1) hb1)
  clear hb1 HG HN
  go_wp2_with fail
  refine (is_2 _).mono ?_
  rintro e w2 ⟨rfl, hw⟩
  subst w2
  go_wp2_with fail
  refine (byName_2 ⟨#[98, 105, 110, 97, 114, 121, 51, 50]⟩ (by decide +kernel) (by decide +kernel) _ HST.out.n).mono ?_
  rintro e w2 ⟨rfl, hw⟩
  subst w2
  go_upto_region 6 with fail
  refine wp_gen (fun W => OfSt w1.heap.size (w1.heap.size + 1) w (fun i => [32, 24, 127, -126, 8].getD i 0) W) HST.out ?_
  clear HST
  rintro W1 h1
  generalize w1.heap.size + 1 = q at *
  generalize w1.heap.size = p at *
  refine wp_region_grow 36 [(40, .val (.bool true)), (41, .val (.bool true)), (42, .val (.agg #[.int .i64 32, .int .i64 24, .int .i64 127, .int .i64 (-126), .int .i64 8])), (43, .val (.int .i64 2)), (44, .val (.int .i64 32)), (45, .val (.int .i64 2)), (46, .val (.int .i64 24)), (47, .val (.int .i64 2)), (48, .val (.int .i64 127)), (49, .val (.int .i64 2)), (50, .val (.int .i64 (-126))), (51, .val (.int .i64 2)), (52, .val (.int .i64 8)), (53, .val (.agg #[.int .i64 32, .int .i64 24, .int .i64 127, .int .i64 (-126), .int .i64 8])), (54, .val (.bool true)), (55, .val (.bool true)), (56, .val (.bool true)), (57, .val (.int .i64 2)), (58, .val (.string ⟨#[98, 105, 110, 97, 114, 121, 51, 50]⟩)), (59, .val (.slice (some ⟨q, 0, none⟩) 5 5)), (60, .val (.int .i64 2)), (61, .val (.pointer (some ⟨q, 2, none⟩))), (62, .val (.string ⟨#[98, 105, 110, 97, 114, 121, 51, 50]⟩)), (63, .val (.bool true)), (64, .val (.bool true)), (65, .val (.bool true)), (66, .val (.int .i64 2)), (67, .val (.int .i64 2)), (68, .val (.bool true)), (69, .val (.bool true)), (70, .val (.bool true)), (71, .val (.bool true)), (72, .val (.bool true)), (73, .val (.bool true)), (74, .val (.bool true)), (75, .val (.bool true))]
    (fun W => OfSt p q w (fun i => [32, 24, 127, -126, 8].getD i 0) W) mixedOk (by kernel_rfl) (by kernel_rfl) (h1.below (Below.refl _ _).drew) (fun W W' h hb => h.below hb) ?_ ?_
  · refine gSt (gStep_run rfl (gRun_move 4 40 (.inl rfl) rfl (by decide +kernel) (fun v w h => h))) ?_
    refine gSt (gStep_run rfl (gRun_move 40 41 (.inl rfl) rfl (by decide +kernel) (fun v w h => h))) ?_
    refine gSt (gStep_on 1 41 true rfl rfl (by decide +kernel) (fun v w h => h) ?_) ?_
    · intro ρ W hC hc hf hL
      have e3 : ρ (.tmp 3) = .pointer (some ⟨p, 0, none⟩) := hL 3 (by decide +kernel)
      have hl0 : W.cell? ⟨p, 0, none⟩ = some (.int .i64 32) := hC.rk 0 (by decide)
      have hl1 : W.cell? ⟨p, 1, none⟩ = some (.int .i64 24) := hC.rk 1 (by decide)
      have hl2 : W.cell? ⟨p, 2, none⟩ = some (.int .i64 127) := hC.rk 2 (by decide)
      have hl3 : W.cell? ⟨p, 3, none⟩ = some (.int .i64 (-126)) := hC.rk 3 (by decide)
      have hl4 : W.cell? ⟨p, 4, none⟩ = some (.int .i64 8) := hC.rk 4 (by decide)
      simp [go_sem, hc, hf, e3, hl0, hl1, hl2, hl3, hl4]
      exact ⟨Below.refl _ _, rfl⟩
    refine gSt (gStep_on 1 41 true rfl rfl (by decide +kernel) (fun v w h => h) (gRun_move 0 43 (.inl rfl) rfl (by decide +kernel) (fun v w h => h))) ?_
    refine gSt (gStep_on 1 41 true rfl rfl (by decide +kernel) (fun v w h => h) ?_) ?_
    · intro ρ W hC hc hf hL
      have e43 : ρ (.tmp 43) = .int .i64 2 := hL 43 (by decide +kernel)
      simp [go_sem, hc, hf, e43]
      refine (bits_2 W).mono ?_
      rintro e w' ⟨rfl, hb⟩
      exact ⟨_, rfl, by first | exact hb | (subst hb; exact Below.refl _ _), rfl⟩
    refine gSt (gStep_on 1 41 true rfl rfl (by decide +kernel) (fun v w h => h) (gRun_move 0 45 (.inl rfl) rfl (by decide +kernel) (fun v w h => h))) ?_
    refine gSt (gStep_on 1 41 true rfl rfl (by decide +kernel) (fun v w h => h) ?_) ?_
    · intro ρ W hC hc hf hL
      have e45 : ρ (.tmp 45) = .int .i64 2 := hL 45 (by decide +kernel)
      simp [go_sem, hc, hf, e45]
      refine (prec_2 W).mono ?_
      rintro e w' ⟨rfl, hb⟩
      exact ⟨_, rfl, by first | exact hb | (subst hb; exact Below.refl _ _), rfl⟩
    refine gSt (gStep_on 1 41 true rfl rfl (by decide +kernel) (fun v w h => h) (gRun_move 0 47 (.inl rfl) rfl (by decide +kernel) (fun v w h => h))) ?_
    refine gSt (gStep_on 1 41 true rfl rfl (by decide +kernel) (fun v w h => h) ?_) ?_
    · intro ρ W hC hc hf hL
      have e47 : ρ (.tmp 47) = .int .i64 2 := hL 47 (by decide +kernel)
      simp [go_sem, hc, hf, e47]
      refine (emax_2 W).mono ?_
      rintro e w' ⟨rfl, hb⟩
      exact ⟨_, rfl, by first | exact hb | (subst hb; exact Below.refl _ _), rfl⟩
    refine gSt (gStep_on 1 41 true rfl rfl (by decide +kernel) (fun v w h => h) (gRun_move 0 49 (.inl rfl) rfl (by decide +kernel) (fun v w h => h))) ?_
    refine gSt (gStep_on 1 41 true rfl rfl (by decide +kernel) (fun v w h => h) ?_) ?_
    · intro ρ W hC hc hf hL
      have e49 : ρ (.tmp 49) = .int .i64 2 := hL 49 (by decide +kernel)
      simp [go_sem, hc, hf, e49]
      refine (emin_2 W).mono ?_
      rintro e w' ⟨rfl, hb⟩
      exact ⟨_, rfl, by first | exact hb | (subst hb; exact Below.refl _ _), rfl⟩
    refine gSt (gStep_on 1 41 true rfl rfl (by decide +kernel) (fun v w h => h) (gRun_move 0 51 (.inl rfl) rfl (by decide +kernel) (fun v w h => h))) ?_
    refine gSt (gStep_on 1 41 true rfl rfl (by decide +kernel) (fun v w h => h) ?_) ?_
    · intro ρ W hC hc hf hL
      have e51 : ρ (.tmp 51) = .int .i64 2 := hL 51 (by decide +kernel)
      simp [go_sem, hc, hf, e51]
      refine (field_2 W).mono ?_
      rintro e w' ⟨rfl, hb⟩
      exact ⟨_, rfl, by first | exact hb | (subst hb; exact Below.refl _ _), rfl⟩
    refine gSt (gStep_on 1 41 true rfl rfl (by decide +kernel) (fun v w h => h) ?_) ?_
    · intro ρ W hC hc hf hL
      have e44 : ρ (.tmp 44) = .int .i64 32 := hL 44 (by decide +kernel)
      have e46 : ρ (.tmp 46) = .int .i64 24 := hL 46 (by decide +kernel)
      have e48 : ρ (.tmp 48) = .int .i64 127 := hL 48 (by decide +kernel)
      have e50 : ρ (.tmp 50) = .int .i64 (-126) := hL 50 (by decide +kernel)
      have e52 : ρ (.tmp 52) = .int .i64 8 := hL 52 (by decide +kernel)
      simp [go_sem, hc, hf, e44, e46, e48, e50, e52]
      exact ⟨Below.refl _ _, rfl⟩
    refine gSt (gStep_on 1 41 true rfl rfl (by decide +kernel) (fun v w h => h) ?_) ?_
    · intro ρ W hC hc hf hL
      have e42 : ρ (.tmp 42) = .agg #[.int .i64 32, .int .i64 24, .int .i64 127, .int .i64 (-126), .int .i64 8] := hL 42 (by decide +kernel)
      have e53 : ρ (.tmp 53) = .agg #[.int .i64 32, .int .i64 24, .int .i64 127, .int .i64 (-126), .int .i64 8] := hL 53 (by decide +kernel)
      have hl := fun w => fmt_same (32) (24) (127) (-126) (8) w
      simp [go_sem, hc, hf, e42, e53, hl]
      exact ⟨Below.refl _ _, rfl⟩
    refine gSt (gStep_run rfl (gRun_pickT 41 54 55 _ rfl rfl (by decide +kernel) (by decide +kernel) (fun v w h => h) (fun v w h => h))) ?_
    refine gSt (gStep_run rfl (gRun_move 55 56 (.inl rfl) rfl (by decide +kernel) (fun v w h => h))) ?_
    refine gSt (gStep_on 16 56 true rfl rfl (by decide +kernel) (fun v w h => h) (gRun_move 0 57 (.inl rfl) rfl (by decide +kernel) (fun v w h => h))) ?_
    refine gSt (gStep_on 16 56 true rfl rfl (by decide +kernel) (fun v w h => h) ?_) ?_
    · intro ρ W hC hc hf hL
      have e57 : ρ (.tmp 57) = .int .i64 2 := hL 57 (by decide +kernel)
      simp [go_sem, hc, hf, e57]
      refine (name_2 W hC.n).mono ?_
      rintro e w' ⟨rfl, hb⟩
      exact ⟨_, rfl, by first | exact hb | (subst hb; exact Below.refl _ _), rfl⟩
    refine gSt (gStep_on 16 56 true rfl rfl (by decide +kernel) (fun v w h => h) (gRun_move 5 59 (.inl rfl) rfl (by decide +kernel) (fun v w h => h))) ?_
    refine gSt (gStep_on 16 56 true rfl rfl (by decide +kernel) (fun v w h => h) (gRun_move 0 60 (.inl rfl) rfl (by decide +kernel) (fun v w h => h))) ?_
    refine gSt (gStep_on 16 56 true rfl rfl (by decide +kernel) (fun v w h => h) ?_) ?_
    · intro ρ W hC hc hf hL
      have e59 : ρ (.tmp 59) = .slice (some ⟨q, 0, none⟩) 5 5 := hL 59 (by decide +kernel)
      have e60 : ρ (.tmp 60) = .int .i64 2 := hL 60 (by decide +kernel)
      simp [go_sem, hc, hf, e59, e60]
      exact ⟨Below.refl _ _, rfl⟩
    refine gSt (gStep_on 16 56 true rfl rfl (by decide +kernel) (fun v w h => h) ?_) ?_
    · intro ρ W hC hc hf hL
      have e61 : ρ (.tmp 61) = .pointer (some ⟨q, 2, none⟩) := hL 61 (by decide +kernel)
      have hl : W.cell? ⟨q, 2, none⟩ = some (.string ⟨#[98, 105, 110, 97, 114, 121, 51, 50]⟩) := hC.sk 2 (by decide)
      simp [go_sem, hc, hf, e61, hl]
      exact ⟨Below.refl _ _, rfl⟩
    refine gSt (gStep_on 16 56 true rfl rfl (by decide +kernel) (fun v w h => h) ?_) ?_
    · intro ρ W hC hc hf hL
      have e58 : ρ (.tmp 58) = .string ⟨#[98, 105, 110, 97, 114, 121, 51, 50]⟩ := hL 58 (by decide +kernel)
      have e62 : ρ (.tmp 62) = .string ⟨#[98, 105, 110, 97, 114, 121, 51, 50]⟩ := hL 62 (by decide +kernel)
      simp [go_sem, hc, hf, e58, e62]
      exact ⟨Below.refl _ _, rfl⟩
    refine gSt (gStep_run rfl (gRun_pickT 56 63 64 _ rfl rfl (by decide +kernel) (by decide +kernel) (fun v w h => h) (fun v w h => h))) ?_
    refine gSt (gStep_run rfl (gRun_move 64 65 (.inl rfl) rfl (by decide +kernel) (fun v w h => h))) ?_
    refine gSt (gStep_on 25 65 true rfl rfl (by decide +kernel) (fun v w h => h) (gRun_move 6 66 (.inl rfl) rfl (by decide +kernel) (fun v w h => h))) ?_
    refine gSt (gStep_on 25 65 true rfl rfl (by decide +kernel) (fun v w h => h) (gRun_move 0 67 (.inl rfl) rfl (by decide +kernel) (fun v w h => h))) ?_
    refine gSt (gStep_on 25 65 true rfl rfl (by decide +kernel) (fun v w h => h) ?_) ?_
    · intro ρ W hC hc hf hL
      have e66 : ρ (.tmp 66) = .int .i64 2 := hL 66 (by decide +kernel)
      have e67 : ρ (.tmp 67) = .int .i64 2 := hL 67 (by decide +kernel)
      simp [go_sem, hc, hf, e66, e67]
      exact ⟨Below.refl _ _, rfl⟩
    refine gSt (gStep_run rfl (gRun_pickT 65 68 69 _ rfl rfl (by decide +kernel) (by decide +kernel) (fun v w h => h) (fun v w h => h))) ?_
    refine gSt (gStep_run rfl (gRun_move 69 70 (.inl rfl) rfl (by decide +kernel) (fun v w h => h))) ?_
    refine gSt (gStep_on 30 70 true rfl rfl (by decide +kernel) (fun v w h => h) (gRun_move 7 71 (.inl rfl) rfl (by decide +kernel) (fun v w h => h))) ?_
    refine gSt (gStep_run rfl (gRun_pickT 70 71 72 _ rfl rfl (by decide +kernel) (by decide +kernel) (fun v w h => h) (fun v w h => h))) ?_
    refine gSt (gStep_run rfl (gRun_move 72 73 (.inl rfl) rfl (by decide +kernel) (fun v w h => h))) ?_
    refine gSt (gStep_on 33 73 true rfl rfl (by decide +kernel) (fun v w h => h) ?_) ?_
    · intro ρ W hC hc hf hL
      simp [go_sem, hc, hf]
      refine (awake5_any W hC.g).mono ?_
      rintro e w' ⟨rfl, hb⟩
      exact ⟨_, rfl, by first | exact hb | (subst hb; exact Below.refl _ _), rfl⟩
    refine gSt (gStep_run rfl (gRun_pickT 73 74 75 _ rfl rfl (by decide +kernel) (by decide +kernel) (fun v w h => h) (fun v w h => h))) ?_
    exact gSt0
  · intro W hC
    refine gFi 40 rfl ?_
    rintro _ rfl
    refine gFi 41 rfl ?_
    rintro _ rfl
    refine gFi 42 rfl ?_
    rintro _ rfl
    refine gFi 43 rfl ?_
    rintro _ rfl
    refine gFi 44 rfl ?_
    rintro _ rfl
    refine gFi 45 rfl ?_
    rintro _ rfl
    refine gFi 46 rfl ?_
    rintro _ rfl
    refine gFi 47 rfl ?_
    rintro _ rfl
    refine gFi 48 rfl ?_
    rintro _ rfl
    refine gFi 49 rfl ?_
    rintro _ rfl
    refine gFi 50 rfl ?_
    rintro _ rfl
    refine gFi 51 rfl ?_
    rintro _ rfl
    refine gFi 52 rfl ?_
    rintro _ rfl
    refine gFi 53 rfl ?_
    rintro _ rfl
    refine gFi 54 rfl ?_
    rintro _ rfl
    refine gFi 55 rfl ?_
    rintro _ rfl
    refine gFi 56 rfl ?_
    rintro _ rfl
    refine gFi 57 rfl ?_
    rintro _ rfl
    refine gFi 58 rfl ?_
    rintro _ rfl
    refine gFi 59 rfl ?_
    rintro _ rfl
    refine gFi 60 rfl ?_
    rintro _ rfl
    refine gFi 61 rfl ?_
    rintro _ rfl
    refine gFi 62 rfl ?_
    rintro _ rfl
    refine gFi 63 rfl ?_
    rintro _ rfl
    refine gFi 64 rfl ?_
    rintro _ rfl
    refine gFi 65 rfl ?_
    rintro _ rfl
    refine gFi 66 rfl ?_
    rintro _ rfl
    refine gFi 67 rfl ?_
    rintro _ rfl
    refine gFi 68 rfl ?_
    rintro _ rfl
    refine gFi 69 rfl ?_
    rintro _ rfl
    refine gFi 70 rfl ?_
    rintro _ rfl
    refine gFi 71 rfl ?_
    rintro _ rfl
    refine gFi 72 rfl ?_
    rintro _ rfl
    refine gFi 73 rfl ?_
    rintro _ rfl
    refine gFi 74 rfl ?_
    rintro _ rfl
    refine gFi 75 rfl ?_
    rintro _ rfl
    refine gFi0 ?_
    simp only [List.drop_succ_cons, List.drop_zero, Act.put, List.setIfInBounds_toArray, List.set_cons_succ, List.set_cons_zero]
    have HB := hide hC.bel
    clear hC h1
    go_wp2
    go_ret
    exact ⟨rfl, HB.out⟩

set_option maxHeartbeats 2000000 in
theorem formatOf_3 (w : World) (hg : FmtG w) (hn : NamG w) : Calls Tryd.prog 3 #[.int .i64 3] w fun e w' => e = .returned (.bool true) ∧ Below w.heap.size w w' := by
  have HG := hide hg
  have HN := hide hn
  clear hg hn
  go_enter Tryd.func3, Tryd.ntmps3
  go_wp2_with fail
  refine (of_3 _ HG.out).mono ?_
  rintro e w1 ⟨rfl, hb1⟩
  have HST := hide (ofSt_start (fun i => [64, 53, 1023, -1022, 11].getD i 0) w w1 (HG.out.below hb1) (HN.out.below hb1) hb1)
  clear hb1 HG HN
  go_wp2_with fail
  refine (is_3 _).mono ?_
  rintro e w2 ⟨rfl, hw⟩
  subst w2
  go_wp2_with fail
  refine (byName_3 ⟨#[98, 105, 110, 97, 114, 121, 54, 52]⟩ (by decide +kernel) (by decide +kernel) (by decide +kernel) _ HST.out.n).mono ?_
  rintro e w2 ⟨rfl, hw⟩
  subst w2
  go_upto_region 6 with fail
  refine wp_gen (fun W => OfSt w1.heap.size (w1.heap.size + 1) w (fun i => [64, 53, 1023, -1022, 11].getD i 0) W) HST.out ?_
  clear HST
  rintro W1 h1
  generalize w1.heap.size + 1 = q at *
  generalize w1.heap.size = p at *
  refine wp_region_grow 36 [(40, .val (.bool true)), (41, .val (.bool true)), (42, .val (.agg #[.int .i64 64, .int .i64 53, .int .i64 1023, .int .i64 (-1022), .int .i64 11])), (43, .val (.int .i64 3)), (44, .val (.int .i64 64)), (45, .val (.int .i64 3)), (46, .val (.int .i64 53)), (47, .val (.int .i64 3)), (48, .val (.int .i64 1023)), (49, .val (.int .i64 3)), (50, .val (.int .i64 (-1022))), (51, .val (.int .i64 3)), (52, .val (.int .i64 11)), (53, .val (.agg #[.int .i64 64, .int .i64 53, .int .i64 1023, .int .i64 (-1022), .int .i64 11])), (54, .val (.bool true)), (55, .val (.bool true)), (56, .val (.bool true)), (57, .val (.int .i64 3)), (58, .val (.string ⟨#[98, 105, 110, 97, 114, 121, 54, 52]⟩)), (59, .val (.slice (some ⟨q, 0, none⟩) 5 5)), (60, .val (.int .i64 3)), (61, .val (.pointer (some ⟨q, 3, none⟩))), (62, .val (.string ⟨#[98, 105, 110, 97, 114, 121, 54, 52]⟩)), (63, .val (.bool true)), (64, .val (.bool true)), (65, .val (.bool true)), (66, .val (.int .i64 3)), (67, .val (.int .i64 3)), (68, .val (.bool true)), (69, .val (.bool true)), (70, .val (.bool true)), (71, .val (.bool true)), (72, .val (.bool true)), (73, .val (.bool true)), (74, .val (.bool true)), (75, .val (.bool true))]
    (fun W => OfSt p q w (fun i => [64, 53, 1023, -1022, 11].getD i 0) W) mixedOk (by kernel_rfl) (by kernel_rfl) (h1.below (Below.refl _ _).drew) (fun W W' h hb => h.below hb) ?_ ?_
  · refine gSt (gStep_run rfl (gRun_move 4 40 (.inl rfl) rfl (by decide +kernel) (fun v w h => h))) ?_
    refine gSt (gStep_run rfl (gRun_move 40 41 (.inl rfl) rfl (by decide +kernel) (fun v w h => h))) ?_
    refine gSt (gStep_on 1 41 true rfl rfl (by decide +kernel) (fun v w h => h) ?_) ?_
    · intro ρ W hC hc hf hL
      have e3 : ρ (.tmp 3) = .pointer (some ⟨p, 0, none⟩) := hL 3 (by decide +kernel)
      have hl0 : W.cell? ⟨p, 0, none⟩ = some (.int .i64 64) := hC.rk 0 (by decide)
      have hl1 : W.cell? ⟨p, 1, none⟩ = some (.int .i64 53) := hC.rk 1 (by decide)
      have hl2 : W.cell? ⟨p, 2, none⟩ = some (.int .i64 1023) := hC.rk 2 (by decide)
      have hl3 : W.cell? ⟨p, 3, none⟩ = some (.int .i64 (-1022)) := hC.rk 3 (by decide)
      have hl4 : W.cell? ⟨p, 4, none⟩ = some (.int .i64 11) := hC.rk 4 (by decide)
      simp [go_sem, hc, hf, e3, hl0, hl1, hl2, hl3, hl4]
      exact ⟨Below.refl _ _, rfl⟩
    refine gSt (gStep_on 1 41 true rfl rfl (by decide +kernel) (fun v w h => h) (gRun_move 0 43 (.inl rfl) rfl (by decide +kernel) (fun v w h => h))) ?_
    refine gSt (gStep_on 1 41 true rfl rfl (by decide +kernel) (fun v w h => h) ?_) ?_
    · intro ρ W hC hc hf hL
      have e43 : ρ (.tmp 43) = .int .i64 3 := hL 43 (by decide +kernel)
      simp [go_sem, hc, hf, e43]
      refine (bits_3 W).mono ?_
      rintro e w' ⟨rfl, hb⟩
      exact ⟨_, rfl, by first | exact hb | (subst hb; exact Below.refl _ _), rfl⟩
    refine gSt (gStep_on 1 41 true rfl rfl (by decide +kernel) (fun v w h => h) (gRun_move 0 45 (.inl rfl) rfl (by decide +kernel) (fun v w h => h))) ?_
    refine gSt (gStep_on 1 41 true rfl rfl (by decide +kernel) (fun v w h => h) ?_) ?_
    · intro ρ W hC hc hf hL
      have e45 : ρ (.tmp 45) = .int .i64 3 := hL 45 (by decide +kernel)
      simp [go_sem, hc, hf, e45]
      refine (prec_3 W).mono ?_
      rintro e w' ⟨rfl, hb⟩
      exact ⟨_, rfl, by first | exact hb | (subst hb; exact Below.refl _ _), rfl⟩
    refine gSt (gStep_on 1 41 true rfl rfl (by decide +kernel) (fun v w h => h) (gRun_move 0 47 (.inl rfl) rfl (by decide +kernel) (fun v w h => h))) ?_
    refine gSt (gStep_on 1 41 true rfl rfl (by decide +kernel) (fun v w h => h) ?_) ?_
    · intro ρ W hC hc hf hL
      have e47 : ρ (.tmp 47) = .int .i64 3 := hL 47 (by decide +kernel)
      simp [go_sem, hc, hf, e47]
      refine (emax_3 W).mono ?_
      rintro e w' ⟨rfl, hb⟩
      exact ⟨_, rfl, by first | exact hb | (subst hb; exact Below.refl _ _), rfl⟩
    refine gSt (gStep_on 1 41 true rfl rfl (by decide +kernel) (fun v w h => h) (gRun_move 0 49 (.inl rfl) rfl (by decide +kernel) (fun v w h => h))) ?_
    refine gSt (gStep_on 1 41 true rfl rfl (by decide +kernel) (fun v w h => h) ?_) ?_
    · intro ρ W hC hc hf hL
      have e49 : ρ (.tmp 49) = .int .i64 3 := hL 49 (by decide +kernel)
      simp [go_sem, hc, hf, e49]
      refine (emin_3 W).mono ?_
      rintro e w' ⟨rfl, hb⟩
      exact ⟨_, rfl, by first | exact hb | (subst hb; exact Below.refl _ _), rfl⟩
    refine gSt (gStep_on 1 41 true rfl rfl (by decide +kernel) (fun v w h => h) (gRun_move 0 51 (.inl rfl) rfl (by decide +kernel) (fun v w h => h))) ?_
    refine gSt (gStep_on 1 41 true rfl rfl (by decide +kernel) (fun v w h => h) ?_) ?_
    · intro ρ W hC hc hf hL
      have e51 : ρ (.tmp 51) = .int .i64 3 := hL 51 (by decide +kernel)
      simp [go_sem, hc, hf, e51]
      refine (field_3 W).mono ?_
      rintro e w' ⟨rfl, hb⟩
      exact ⟨_, rfl, by first | exact hb | (subst hb; exact Below.refl _ _), rfl⟩
    refine gSt (gStep_on 1 41 true rfl rfl (by decide +kernel) (fun v w h => h) ?_) ?_
    · intro ρ W hC hc hf hL
      have e44 : ρ (.tmp 44) = .int .i64 64 := hL 44 (by decide +kernel)
      have e46 : ρ (.tmp 46) = .int .i64 53 := hL 46 (by decide +kernel)
      have e48 : ρ (.tmp 48) = .int .i64 1023 := hL 48 (by decide +kernel)
      have e50 : ρ (.tmp 50) = .int .i64 (-1022) := hL 50 (by decide +kernel)
      have e52 : ρ (.tmp 52) = .int .i64 11 := hL 52 (by decide +kernel)
      simp [go_sem, hc, hf, e44, e46, e48, e50, e52]
      exact ⟨Below.refl _ _, rfl⟩
    refine gSt (gStep_on 1 41 true rfl rfl (by decide +kernel) (fun v w h => h) ?_) ?_
    · intro ρ W hC hc hf hL
      have e42 : ρ (.tmp 42) = .agg #[.int .i64 64, .int .i64 53, .int .i64 1023, .int .i64 (-1022), .int .i64 11] := hL 42 (by decide +kernel)
      have e53 : ρ (.tmp 53) = .agg #[.int .i64 64, .int .i64 53, .int .i64 1023, .int .i64 (-1022), .int .i64 11] := hL 53 (by decide +kernel)
      have hl := fun w => fmt_same (64) (53) (1023) (-1022) (11) w
      simp [go_sem, hc, hf, e42, e53, hl]
      exact ⟨Below.refl _ _, rfl⟩
    refine gSt (gStep_run rfl (gRun_pickT 41 54 55 _ rfl rfl (by decide +kernel) (by decide +kernel) (fun v w h => h) (fun v w h => h))) ?_
    refine gSt (gStep_run rfl (gRun_move 55 56 (.inl rfl) rfl (by decide +kernel) (fun v w h => h))) ?_
    refine gSt (gStep_on 16 56 true rfl rfl (by decide +kernel) (fun v w h => h) (gRun_move 0 57 (.inl rfl) rfl (by decide +kernel) (fun v w h => h))) ?_
    refine gSt (gStep_on 16 56 true rfl rfl (by decide +kernel) (fun v w h => h) ?_) ?_
    · intro ρ W hC hc hf hL
      have e57 : ρ (.tmp 57) = .int .i64 3 := hL 57 (by decide +kernel)
      simp [go_sem, hc, hf, e57]
      refine (name_3 W hC.n).mono ?_
      rintro e w' ⟨rfl, hb⟩
      exact ⟨_, rfl, by first | exact hb | (subst hb; exact Below.refl _ _), rfl⟩
    refine gSt (gStep_on 16 56 true rfl rfl (by decide +kernel) (fun v w h => h) (gRun_move 5 59 (.inl rfl) rfl (by decide +kernel) (fun v w h => h))) ?_
    refine gSt (gStep_on 16 56 true rfl rfl (by decide +kernel) (fun v w h => h) (gRun_move 0 60 (.inl rfl) rfl (by decide +kernel) (fun v w h => h))) ?_
    refine gSt (gStep_on 16 56 true rfl rfl (by decide +kernel) (fun v w h => h) ?_) ?_
    · intro ρ W hC hc hf hL
      have e59 : ρ (.tmp 59) = .slice (some ⟨q, 0, none⟩) 5 5 := hL 59 (by decide +kernel)
      have e60 : ρ (.tmp 60) = .int .i64 3 := hL 60 (by decide +kernel)
      simp [go_sem, hc, hf, e59, e60]
      exact ⟨Below.refl _ _, rfl⟩
    refine gSt (gStep_on 16 56 true rfl rfl (by decide +kernel) (fun v w h => h) ?_) ?_
    · intro ρ W hC hc hf hL
      have e61 : ρ (.tmp 61) = .pointer (some ⟨q, 3, none⟩) := hL 61 (by decide +kernel)
      have hl : W.cell? ⟨q, 3, none⟩ = some (.string ⟨#[98, 105, 110, 97, 114, 121, 54, 52]⟩) := hC.sk 3 (by decide)
      simp [go_sem, hc, hf, e61, hl]
      exact ⟨Below.refl _ _, rfl⟩
    refine gSt (gStep_on 16 56 true rfl rfl (by decide +kernel) (fun v w h => h) ?_) ?_
    · intro ρ W hC hc hf hL
      have e58 : ρ (.tmp 58) = .string ⟨#[98, 105, 110, 97, 114, 121, 54, 52]⟩ := hL 58 (by decide +kernel)
      have e62 : ρ (.tmp 62) = .string ⟨#[98, 105, 110, 97, 114, 121, 54, 52]⟩ := hL 62 (by decide +kernel)
      simp [go_sem, hc, hf, e58, e62]
      exact ⟨Below.refl _ _, rfl⟩
    refine gSt (gStep_run rfl (gRun_pickT 56 63 64 _ rfl rfl (by decide +kernel) (by decide +kernel) (fun v w h => h) (fun v w h => h))) ?_
    refine gSt (gStep_run rfl (gRun_move 64 65 (.inl rfl) rfl (by decide +kernel) (fun v w h => h))) ?_
    refine gSt (gStep_on 25 65 true rfl rfl (by decide +kernel) (fun v w h => h) (gRun_move 6 66 (.inl rfl) rfl (by decide +kernel) (fun v w h => h))) ?_
    refine gSt (gStep_on 25 65 true rfl rfl (by decide +kernel) (fun v w h => h) (gRun_move 0 67 (.inl rfl) rfl (by decide +kernel) (fun v w h => h))) ?_
    refine gSt (gStep_on 25 65 true rfl rfl (by decide +kernel) (fun v w h => h) ?_) ?_
    · intro ρ W hC hc hf hL
      have e66 : ρ (.tmp 66) = .int .i64 3 := hL 66 (by decide +kernel)
      have e67 : ρ (.tmp 67) = .int .i64 3 := hL 67 (by decide +kernel)
      simp [go_sem, hc, hf, e66, e67]
      exact ⟨Below.refl _ _, rfl⟩
    refine gSt (gStep_run rfl (gRun_pickT 65 68 69 _ rfl rfl (by decide +kernel) (by decide +kernel) (fun v w h => h) (fun v w h => h))) ?_
    refine gSt (gStep_run rfl (gRun_move 69 70 (.inl rfl) rfl (by decide +kernel) (fun v w h => h))) ?_
    refine gSt (gStep_on 30 70 true rfl rfl (by decide +kernel) (fun v w h => h) (gRun_move 7 71 (.inl rfl) rfl (by decide +kernel) (fun v w h => h))) ?_
    refine gSt (gStep_run rfl (gRun_pickT 70 71 72 _ rfl rfl (by decide +kernel) (by decide +kernel) (fun v w h => h) (fun v w h => h))) ?_
    refine gSt (gStep_run rfl (gRun_move 72 73 (.inl rfl) rfl (by decide +kernel) (fun v w h => h))) ?_
    refine gSt (gStep_on 33 73 true rfl rfl (by decide +kernel) (fun v w h => h) ?_) ?_
    · intro ρ W hC hc hf hL
      simp [go_sem, hc, hf]
      refine (awake5_any W hC.g).mono ?_
      rintro e w' ⟨rfl, hb⟩
      exact ⟨_, rfl, by first | exact hb | (subst hb; exact Below.refl _ _), rfl⟩
    refine gSt (gStep_run rfl (gRun_pickT 73 74 75 _ rfl rfl (by decide +kernel) (by decide +kernel) (fun v w h => h) (fun v w h => h))) ?_
    exact gSt0
  · intro W hC
    refine gFi 40 rfl ?_
    rintro _ rfl
    refine gFi 41 rfl ?_
    rintro _ rfl
    refine gFi 42 rfl ?_
    rintro _ rfl
    refine gFi 43 rfl ?_
    rintro _ rfl
    refine gFi 44 rfl ?_
    rintro _ rfl
    refine gFi 45 rfl ?_
    rintro _ rfl
    refine gFi 46 rfl ?_
    rintro _ rfl
    refine gFi 47 rfl ?_
    rintro _ rfl
    refine gFi 48 rfl ?_
    rintro _ rfl
    refine gFi 49 rfl ?_
    rintro _ rfl
    refine gFi 50 rfl ?_
    rintro _ rfl
    refine gFi 51 rfl ?_
    rintro _ rfl
    refine gFi 52 rfl ?_
    rintro _ rfl
    refine gFi 53 rfl ?_
    rintro _ rfl
    refine gFi 54 rfl ?_
    rintro _ rfl
    refine gFi 55 rfl ?_
    rintro _ rfl
    refine gFi 56 rfl ?_
    rintro _ rfl
    refine gFi 57 rfl ?_
    rintro _ rfl
    refine gFi 58 rfl ?_
    rintro _ rfl
    refine gFi 59 rfl ?_
    rintro _ rfl
    refine gFi 60 rfl ?_
    rintro _ rfl
    refine gFi 61 rfl ?_
    rintro _ rfl
    refine gFi 62 rfl ?_
    rintro _ rfl
    refine gFi 63 rfl ?_
    rintro _ rfl
    refine gFi 64 rfl ?_
    rintro _ rfl
    refine gFi 65 rfl ?_
    rintro _ rfl
    refine gFi 66 rfl ?_
    rintro _ rfl
    refine gFi 67 rfl ?_
    rintro _ rfl
    refine gFi 68 rfl ?_
    rintro _ rfl
    refine gFi 69 rfl ?_
    rintro _ rfl
    refine gFi 70 rfl ?_
    rintro _ rfl
    refine gFi 71 rfl ?_
    rintro _ rfl
    refine gFi 72 rfl ?_
    rintro _ rfl
    refine gFi 73 rfl ?_
    rintro _ rfl
    refine gFi 74 rfl ?_
    rintro _ rfl
    refine gFi 75 rfl ?_
    rintro _ rfl
    refine gFi0 ?_
    simp only [List.drop_succ_cons, List.drop_zero, Act.put, List.setIfInBounds_toArray, List.set_cons_succ, List.set_cons_zero]
    have HB := hide hC.bel
    clear hC h1
    go_wp2
    go_ret
    exact ⟨rfl, HB.out⟩

set_option maxHeartbeats 2000000 in
theorem formatOf_4 (w : World) (hg : FmtG w) (hn : NamG w) : Calls Tryd.prog 3 #[.int .i64 4] w fun e w' => e = .returned (.bool true) ∧ Below w.heap.size w w' := by
  have HG := hide hg
  have HN := hide hn
  clear hg hn
  go_enter Tryd.func3, Tryd.ntmps3
  go_wp2_with fail
  refine (of_4 _ HG.out).mono ?_
  rintro e w1 ⟨rfl, hb1⟩
  have HST := hide (ofSt_start (fun i => [128, 113, 16383, -16382, 15].getD i 0) w w1 (HG.out.below hb1) (HN.out.below hb1) hb1)
  clear hb1 HG HN
  go_wp2_with fail
  refine (is_4 _).mono ?_
  rintro e w2 ⟨rfl, hw⟩
  subst w2
  go_wp2_with fail
  refine (byName_4 ⟨#[98, 105, 110, 97, 114, 121, 49, 50, 56]⟩ (by decide +kernel) (by decide +kernel) (by decide +kernel) (by decide +kernel) _ HST.out.n).mono ?_
  rintro e w2 ⟨rfl, hw⟩
  subst w2
  go_upto_region 6 with fail
  refine wp_gen (fun W => OfSt w1.heap.size (w1.heap.size + 1) w (fun i => [128, 113, 16383, -16382, 15].getD i 0) W) HST.out ?_
  clear HST
  rintro W1 h1
  generalize w1.heap.size + 1 = q at *
  generalize w1.heap.size = p at *
  refine wp_region_grow 36 [(40, .val (.bool true)), (41, .val (.bool true)), (42, .val (.agg #[.int .i64 128, .int .i64 113, .int .i64 16383, .int .i64 (-16382), .int .i64 15])), (43, .val (.int .i64 4)), (44, .val (.int .i64 128)), (45, .val (.int .i64 4)), (46, .val (.int .i64 113)), (47, .val (.int .i64 4)), (48, .val (.int .i64 16383)), (49, .val (.int .i64 4)), (50, .val (.int .i64 (-16382))), (51, .val (.int .i64 4)), (52, .val (.int .i64 15)), (53, .val (.agg #[.int .i64 128, .int .i64 113, .int .i64 16383, .int .i64 (-16382), .int .i64 15])), (54, .val (.bool true)), (55, .val (.bool true)), (56, .val (.bool true)), (57, .val (.int .i64 4)), (58, .val (.string ⟨#[98, 105, 110, 97, 114, 121, 49, 50, 56]⟩)), (59, .val (.slice (some ⟨q, 0, none⟩) 5 5)), (60, .val (.int .i64 4)), (61, .val (.pointer (some ⟨q, 4, none⟩))), (62, .val (.string ⟨#[98, 105, 110, 97, 114, 121, 49, 50, 56]⟩)), (63, .val (.bool true)), (64, .val (.bool true)), (65, .val (.bool true)), (66, .val (.int .i64 4)), (67, .val (.int .i64 4)), (68, .val (.bool true)), (69, .val (.bool true)), (70, .val (.bool true)), (71, .val (.bool true)), (72, .val (.bool true)), (73, .val (.bool true)), (74, .val (.bool true)), (75, .val (.bool true))]
    (fun W => OfSt p q w (fun i => [128, 113, 16383, -16382, 15].getD i 0) W) mixedOk (by kernel_rfl) (by kernel_rfl) (h1.below (Below.refl _ _).drew) (fun W W' h hb => h.below hb) ?_ ?_
  · refine gSt (gStep_run rfl (gRun_move 4 40 (.inl rfl) rfl (by decide +kernel) (fun v w h => h))) ?_
    refine gSt (gStep_run rfl (gRun_move 40 41 (.inl rfl) rfl (by decide +kernel) (fun v w h => h))) ?_
    refine gSt (gStep_on 1 41 true rfl rfl (by decide +kernel) (fun v w h => h) ?_) ?_
    · intro ρ W hC hc hf hL
      have e3 : ρ (.tmp 3) = .pointer (some ⟨p, 0, none⟩) := hL 3 (by decide +kernel)
      have hl0 : W.cell? ⟨p, 0, none⟩ = some (.int .i64 128) := hC.rk 0 (by decide)
      have hl1 : W.cell? ⟨p, 1, none⟩ = some (.int .i64 113) := hC.rk 1 (by decide)
      have hl2 : W.cell? ⟨p, 2, none⟩ = some (.int .i64 16383) := hC.rk 2 (by decide)
      have hl3 : W.cell? ⟨p, 3, none⟩ = some (.int .i64 (-16382)) := hC.rk 3 (by decide)
      have hl4 : W.cell? ⟨p, 4, none⟩ = some (.int .i64 15) := hC.rk 4 (by decide)
      simp [go_sem, hc, hf, e3, hl0, hl1, hl2, hl3, hl4]
      exact ⟨Below.refl _ _, rfl⟩
    refine gSt (gStep_on 1 41 true rfl rfl (by decide +kernel) (fun v w h => h) (gRun_move 0 43 (.inl rfl) rfl (by decide +kernel) (fun v w h => h))) ?_
    refine gSt (gStep_on 1 41 true rfl rfl (by decide +kernel) (fun v w h => h) ?_) ?_
    · intro ρ W hC hc hf hL
      have e43 : ρ (.tmp 43) = .int .i64 4 := hL 43 (by decide +kernel)
      simp [go_sem, hc, hf, e43]
      refine (bits_4 W).mono ?_
      rintro e w' ⟨rfl, hb⟩
      exact ⟨_, rfl, by first | exact hb | (subst hb; exact Below.refl _ _), rfl⟩
    refine gSt (gStep_on 1 41 true rfl rfl (by decide +kernel) (fun v w h => h) (gRun_move 0 45 (.inl rfl) rfl (by decide +kernel) (fun v w h => h))) ?_
    refine gSt (gStep_on 1 41 true rfl rfl (by decide +kernel) (fun v w h => h) ?_) ?_
    · intro ρ W hC hc hf hL
      have e45 : ρ (.tmp 45) = .int .i64 4 := hL 45 (by decide +kernel)
      simp [go_sem, hc, hf, e45]
      refine (prec_4 W).mono ?_
      rintro e w' ⟨rfl, hb⟩
      exact ⟨_, rfl, by first | exact hb | (subst hb; exact Below.refl _ _), rfl⟩
    refine gSt (gStep_on 1 41 true rfl rfl (by decide +kernel) (fun v w h => h) (gRun_move 0 47 (.inl rfl) rfl (by decide +kernel) (fun v w h => h))) ?_
    refine gSt (gStep_on 1 41 true rfl rfl (by decide +kernel) (fun v w h => h) ?_) ?_
    · intro ρ W hC hc hf hL
      have e47 : ρ (.tmp 47) = .int .i64 4 := hL 47 (by decide +kernel)
      simp [go_sem, hc, hf, e47]
      refine (emax_4 W).mono ?_
      rintro e w' ⟨rfl, hb⟩
      exact ⟨_, rfl, by first | exact hb | (subst hb; exact Below.refl _ _), rfl⟩
    refine gSt (gStep_on 1 41 true rfl rfl (by decide +kernel) (fun v w h => h) (gRun_move 0 49 (.inl rfl) rfl (by decide +kernel) (fun v w h => h))) ?_
    refine gSt (gStep_on 1 41 true rfl rfl (by decide +kernel) (fun v w h => h) ?_) ?_
    · intro ρ W hC hc hf hL
      have e49 : ρ (.tmp 49) = .int .i64 4 := hL 49 (by decide +kernel)
      simp [go_sem, hc, hf, e49]
      refine (emin_4 W).mono ?_
      rintro e w' ⟨rfl, hb⟩
      exact ⟨_, rfl, by first | exact hb | (subst hb; exact Below.refl _ _), rfl⟩
    refine gSt (gStep_on 1 41 true rfl rfl (by decide +kernel) (fun v w h => h) (gRun_move 0 51 (.inl rfl) rfl (by decide +kernel) (fun v w h => h))) ?_
    refine gSt (gStep_on 1 41 true rfl rfl (by decide +kernel) (fun v w h => h) ?_) ?_
    · intro ρ W hC hc hf hL
      have e51 : ρ (.tmp 51) = .int .i64 4 := hL 51 (by decide +kernel)
      simp [go_sem, hc, hf, e51]
      refine (field_4 W).mono ?_
      rintro e w' ⟨rfl, hb⟩
      exact ⟨_, rfl, by first | exact hb | (subst hb; exact Below.refl _ _), rfl⟩
    refine gSt (gStep_on 1 41 true rfl rfl (by decide +kernel) (fun v w h => h) ?_) ?_
    · intro ρ W hC hc hf hL
      have e44 : ρ (.tmp 44) = .int .i64 128 := hL 44 (by decide +kernel)
      have e46 : ρ (.tmp 46) = .int .i64 113 := hL 46 (by decide +kernel)
      have e48 : ρ (.tmp 48) = .int .i64 16383 := hL 48 (by decide +kernel)
      have e50 : ρ (.tmp 50) = .int .i64 (-16382) := hL 50 (by decide +kernel)
      have e52 : ρ (.tmp 52) = .int .i64 15 := hL 52 (by decide +kernel)
      simp [go_sem, hc, hf, e44, e46, e48, e50, e52]
      exact ⟨Below.refl _ _, rfl⟩
    refine gSt (gStep_on 1 41 true rfl rfl (by decide +kernel) (fun v w h => h) ?_) ?_
    · intro ρ W hC hc hf hL
      have e42 : ρ (.tmp 42) = .agg #[.int .i64 128, .int .i64 113, .int .i64 16383, .int .i64 (-16382), .int .i64 15] := hL 42 (by decide +kernel)
      have e53 : ρ (.tmp 53) = .agg #[.int .i64 128, .int .i64 113, .int .i64 16383, .int .i64 (-16382), .int .i64 15] := hL 53 (by decide +kernel)
      have hl := fun w => fmt_same (128) (113) (16383) (-16382) (15) w
      simp [go_sem, hc, hf, e42, e53, hl]
      exact ⟨Below.refl _ _, rfl⟩
    refine gSt (gStep_run rfl (gRun_pickT 41 54 55 _ rfl rfl (by decide +kernel) (by decide +kernel) (fun v w h => h) (fun v w h => h))) ?_
    refine gSt (gStep_run rfl (gRun_move 55 56 (.inl rfl) rfl (by decide +kernel) (fun v w h => h))) ?_
    refine gSt (gStep_on 16 56 true rfl rfl (by decide +kernel) (fun v w h => h) (gRun_move 0 57 (.inl rfl) rfl (by decide +kernel) (fun v w h => h))) ?_
    refine gSt (gStep_on 16 56 true rfl rfl (by decide +kernel) (fun v w h => h) ?_) ?_
    · intro ρ W hC hc hf hL
      have e57 : ρ (.tmp 57) = .int .i64 4 := hL 57 (by decide +kernel)
      simp [go_sem, hc, hf, e57]
      refine (name_4 W hC.n).mono ?_
      rintro e w' ⟨rfl, hb⟩
      exact ⟨_, rfl, by first | exact hb | (subst hb; exact Below.refl _ _), rfl⟩
    refine gSt (gStep_on 16 56 true rfl rfl (by decide +kernel) (fun v w h => h) (gRun_move 5 59 (.inl rfl) rfl (by decide +kernel) (fun v w h => h))) ?_
    refine gSt (gStep_on 16 56 true rfl rfl (by decide +kernel) (fun v w h => h) (gRun_move 0 60 (.inl rfl) rfl (by decide +kernel) (fun v w h => h))) ?_
    refine gSt (gStep_on 16 56 true rfl rfl (by decide +kernel) (fun v w h => h) ?_) ?_
    · intro ρ W hC hc hf hL
      have e59 : ρ (.tmp 59) = .slice (some ⟨q, 0, none⟩) 5 5 := hL 59 (by decide +kernel)
      have e60 : ρ (.tmp 60) = .int .i64 4 := hL 60 (by decide +kernel)
      simp [go_sem, hc, hf, e59, e60]
      exact ⟨Below.refl _ _, rfl⟩
    refine gSt (gStep_on 16 56 true rfl rfl (by decide +kernel) (fun v w h => h) ?_) ?_
    · intro ρ W hC hc hf hL
      have e61 : ρ (.tmp 61) = .pointer (some ⟨q, 4, none⟩) := hL 61 (by decide +kernel)
      have hl : W.cell? ⟨q, 4, none⟩ = some (.string ⟨#[98, 105, 110, 97, 114, 121, 49, 50, 56]⟩) := hC.sk 4 (by decide)
      simp [go_sem, hc, hf, e61, hl]
      exact ⟨Below.refl _ _, rfl⟩
    refine gSt (gStep_on 16 56 true rfl rfl (by decide +kernel) (fun v w h => h) ?_) ?_
    · intro ρ W hC hc hf hL
      have e58 : ρ (.tmp 58) = .string ⟨#[98, 105, 110, 97, 114, 121, 49, 50, 56]⟩ := hL 58 (by decide +kernel)
      have e62 : ρ (.tmp 62) = .string ⟨#[98, 105, 110, 97, 114, 121, 49, 50, 56]⟩ := hL 62 (by decide +kernel)
      simp [go_sem, hc, hf, e58, e62]
      exact ⟨Below.refl _ _, rfl⟩
    refine gSt (gStep_run rfl (gRun_pickT 56 63 64 _ rfl rfl (by decide +kernel) (by decide +kernel) (fun v w h => h) (fun v w h => h))) ?_
    refine gSt (gStep_run rfl (gRun_move 64 65 (.inl rfl) rfl (by decide +kernel) (fun v w h => h))) ?_
    refine gSt (gStep_on 25 65 true rfl rfl (by decide +kernel) (fun v w h => h) (gRun_move 6 66 (.inl rfl) rfl (by decide +kernel) (fun v w h => h))) ?_
    refine gSt (gStep_on 25 65 true rfl rfl (by decide +kernel) (fun v w h => h) (gRun_move 0 67 (.inl rfl) rfl (by decide +kernel) (fun v w h => h))) ?_
    refine gSt (gStep_on 25 65 true rfl rfl (by decide +kernel) (fun v w h => h) ?_) ?_
    · intro ρ W hC hc hf hL
      have e66 : ρ (.tmp 66) = .int .i64 4 := hL 66 (by decide +kernel)
      have e67 : ρ (.tmp 67) = .int .i64 4 := hL 67 (by decide +kernel)
      simp [go_sem, hc, hf, e66, e67]
      exact ⟨Below.refl _ _, rfl⟩
    refine gSt (gStep_run rfl (gRun_pickT 65 68 69 _ rfl rfl (by decide +kernel) (by decide +kernel) (fun v w h => h) (fun v w h => h))) ?_
    refine gSt (gStep_run rfl (gRun_move 69 70 (.inl rfl) rfl (by decide +kernel) (fun v w h => h))) ?_
    refine gSt (gStep_on 30 70 true rfl rfl (by decide +kernel) (fun v w h => h) (gRun_move 7 71 (.inl rfl) rfl (by decide +kernel) (fun v w h => h))) ?_
    refine gSt (gStep_run rfl (gRun_pickT 70 71 72 _ rfl rfl (by decide +kernel) (by decide +kernel) (fun v w h => h) (fun v w h => h))) ?_
    refine gSt (gStep_run rfl (gRun_move 72 73 (.inl rfl) rfl (by decide +kernel) (fun v w h => h))) ?_
    refine gSt (gStep_on 33 73 true rfl rfl (by decide +kernel) (fun v w h => h) ?_) ?_
    · intro ρ W hC hc hf hL
      simp [go_sem, hc, hf]
      refine (awake5_any W hC.g).mono ?_
      rintro e w' ⟨rfl, hb⟩
      exact ⟨_, rfl, by first | exact hb | (subst hb; exact Below.refl _ _), rfl⟩
    refine gSt (gStep_run rfl (gRun_pickT 73 74 75 _ rfl rfl (by decide +kernel) (by decide +kernel) (fun v w h => h) (fun v w h => h))) ?_
    exact gSt0
  · intro W hC
    refine gFi 40 rfl ?_
    rintro _ rfl
    refine gFi 41 rfl ?_
    rintro _ rfl
    refine gFi 42 rfl ?_
    rintro _ rfl
    refine gFi 43 rfl ?_
    rintro _ rfl
    refine gFi 44 rfl ?_
    rintro _ rfl
    refine gFi 45 rfl ?_
    rintro _ rfl
    refine gFi 46 rfl ?_
    rintro _ rfl
    refine gFi 47 rfl ?_
    rintro _ rfl
    refine gFi 48 rfl ?_
    rintro _ rfl
    refine gFi 49 rfl ?_
    rintro _ rfl
    refine gFi 50 rfl ?_
    rintro _ rfl
    refine gFi 51 rfl ?_
    rintro _ rfl
    refine gFi 52 rfl ?_
    rintro _ rfl
    refine gFi 53 rfl ?_
    rintro _ rfl
    refine gFi 54 rfl ?_
    rintro _ rfl
    refine gFi 55 rfl ?_
    rintro _ rfl
    refine gFi 56 rfl ?_
    rintro _ rfl
    refine gFi 57 rfl ?_
    rintro _ rfl
    refine gFi 58 rfl ?_
    rintro _ rfl
    refine gFi 59 rfl ?_
    rintro _ rfl
    refine gFi 60 rfl ?_
    rintro _ rfl
    refine gFi 61 rfl ?_
    rintro _ rfl
    refine gFi 62 rfl ?_
    rintro _ rfl
    refine gFi 63 rfl ?_
    rintro _ rfl
    refine gFi 64 rfl ?_
    rintro _ rfl
    refine gFi 65 rfl ?_
    rintro _ rfl
    refine gFi 66 rfl ?_
    rintro _ rfl
    refine gFi 67 rfl ?_
    rintro _ rfl
    refine gFi 68 rfl ?_
    rintro _ rfl
    refine gFi 69 rfl ?_
    rintro _ rfl
    refine gFi 70 rfl ?_
    rintro _ rfl
    refine gFi 71 rfl ?_
    rintro _ rfl
    refine gFi 72 rfl ?_
    rintro _ rfl
    refine gFi 73 rfl ?_
    rintro _ rfl
    refine gFi 74 rfl ?_
    rintro _ rfl
    refine gFi 75 rfl ?_
    rintro _ rfl
    refine gFi0 ?_
    simp only [List.drop_succ_cons, List.drop_zero, Act.put, List.setIfInBounds_toArray, List.set_cons_succ, List.set_cons_zero]
    have HB := hide hC.bel
    clear hC h1
    go_wp2
    go_ret
    exact ⟨rfl, HB.out⟩

end Go.Proofs.YtjklehlkgccmnaaDoor

/- FormatOf: for every f the law returns true. Conditions: those of the tied card (the tables of formats and of names are laid as the program lays them). -/
namespace Go.Proofs.YtjklehlkgccmnaaDoor.formatOf
open Go.ChangeShapes Go.WideShapes Go.ChangeAt Go.RowKit Go.Proofs.YtjklehlkgccmnaaDoor

theorem formatOf_all (f : Int) (w : World) (hg : FmtG w) (hn : NamG w) : Calls Tryd.prog 3 #[.int .i64 f] w fun e w' => e = .returned (.bool true) ∧ Below w.heap.size w w' := by
  by_cases h : f < 1 ∨ 4 < f
  · exact formatOf_none f h w hg
  · have h4 : f = 1 ∨ f = 2 ∨ f = 3 ∨ f = 4 := by omega
    rcases h4 with rfl | rfl | rfl | rfl
    · exact formatOf_1 w hg hn
    · exact formatOf_2 w hg hn
    · exact formatOf_3 w hg hn
    · exact formatOf_4 w hg hn
theorem own : ownKnob Tryd.prog.godebug = none := by kernel_rfl
theorem laidOut : laidOutB Tryd.prog = true := by kernel_rfl

theorem door_met (os : Os) (args : Array Value) : laidMetH Tryd.prog [("radicand/format.formats", Rows.laid_radicand_format_formats), ("radicand/format.names", Rows.laid_radicand_format_names)] ((World.doorLaid Tryd.prog 400 os).forCall (fun _ _ => 0) ⟨#[], args, []⟩).memory :=
  laidMetH_of_parts3 (fuel := 8) (laidMet_of_run' 8 (by kernel_rfl) (by kernel_rfl)) (by kernel_rfl) (by kernel_rfl)

set_option maxRecDepth 100000 in
theorem lifted (os : Os) (started : os.Started) (H : Type) (enc : TypeId × Value → H) :
    ReturnsInHanded {} Tryd.checked os 3 .any (fun w args => (Rows.formatOfSpec.pre enc Tryd.prog Tryd.f3 [] false w args ∧ laidMetH Tryd.prog [("radicand/format.formats", Rows.laid_radicand_format_formats), ("radicand/format.names", Rows.laid_radicand_format_names)] w) ∧ sizedMet enc Tryd.prog Tryd.f3 (OpenSpec.ofChange Rows.formatOfSpec) false w args) (Rows.formatOfSpec.post enc Tryd.prog Tryd.f3 false true false false) := by
  refine returnsInHanded_of_change_and (C := Tryd.checked) (X := fun w _ => laidMetH Tryd.prog [("radicand/format.formats", Rows.laid_radicand_format_formats), ("radicand/format.names", Rows.laid_radicand_format_names)] w) (fun _ _ _ hh h => h.of_heap hh) own started (by kernel_rfl) Tryd.func3
    (ChangeSpec.witness_shaped (enc := enc) (C := Tryd.checked) (os := os) (X := fun w _ => laidMetH Tryd.prog [("radicand/format.formats", Rows.laid_radicand_format_formats), ("radicand/format.names", Rows.laid_radicand_format_names)] w) false (World.doorLaid Tryd.prog 400 os) #[.int .i64 0] 8 rfl (World.shaped_of_RefB (by kernel_rfl) (by kernel_rfl)) (by kernel_rfl) (by kernel_rfl) (by kernel_rfl) (door_met os _)) ?_
  intro W base args ds gs before hval0 hW _ _ hL _
  have hval : ∀ (j : Nat) t v, Tryd.f3.params[j]? = some t → args[j]? = some v → Value.okWide Tryd.prog W .any base t v := hval0
  have hW' := hW
  obtain ⟨p, q, hA0, hV, rfl, hfz, hnd⟩ := hW
  have hA : DataW.TrodAll enc Tryd.prog W 0 (fun _ => true) true Tryd.f3.params.toList args.toList ds p := hA0
  rw [Tryd.params3] at hA hval
  obtain ⟨v0, vs0, d0, ds0, p0, q0, hargs, rfl, rfl, h0, r0⟩ := trodAll_cons hA
  obtain ⟨rfl, rfl, rfl⟩ := trodAll_nil r0
  obtain rfl : args = #[v0] := by cases args; simp_all
  obtain ⟨rfl, rfl⟩ := trodVars_none hV
  have k0 := h0
  have lt0 : ∀ x ∈ p0, x.block < W.heap.size := by obtain ⟨m, hm⟩ := k0; exact DataW.trod_lt m _ _ _ hm
  obtain ⟨a0, rfl, rfl, rfl, wf0⟩ := open_int Tryd.underlying3 (hval 0 3 v0 rfl rfl) h0
  clear hA0 hval0
  obtain ⟨hg, hn⟩ := of_laid2 hL
  refine (formatOf_all a0 W hg hn).mono fun e W' ⟨he, bel⟩ => ?_
  subst he
  exact ⟨_, rfl, _, _, _, [], _, [], hW', trodAll_mk1 (shut_bool Tryd.underlying4 _), (trodAll_cons_mk (Below.trod laidOut (by kernel_rfl) (of_decide_eq_true (by kernel_rfl)) k0 bel lt0) trodAll_mk0), rfl, bel.frame _, fun h => by cases h⟩

theorem over : Rows.formatOfRow.holds Tryd.pinned (OpenSpec.ofChange Rows.formatOfSpec) :=
  OpenClaim.holds_of_wide 3 Tryd.f3 rfl rfl rfl rfl rfl rfl rfl ⟨rfl, rfl, rfl, rfl, rfl⟩ rfl rfl rfl rfl rfl (by kernel_rfl) Tryd.func3 (by kernel_rfl)
    (of_decide_eq_true (by kernel_rfl)) (by unfold Func.isWrapper; first | (rw [if_pos (by decide +kernel)]; kernel_rfl) | (rw [if_neg (by decide +kernel)]; exact ⟨rfl, rfl⟩))
    (fun os started H enc _ => lifted os started H enc)

theorem proved : Rows.FormatOfCardSaid :=
  Claim7.holds_tied_plain_at .later [] [.data, .data] true (true, "1146b90db6c087cfe87975d1aa443cf10d61f11fc9f3ba5ee7d552a48f8af7b7") false
    over (fun _ h => by cases h) (by kernel_rfl) (fun _ h => by cases h) formatOf_row_tie rfl ⟨rfl, rfl⟩ (by kernel_rfl) rfl
    (fun f fn hf hfn => by
      obtain rfl : f = 3 := Option.some.inj ((show Tryd.prog.funcNamed "radicand/radicandlaw05.FormatOf" = some 3 by kernel_rfl).symm.trans hf) |>.symm
      obtain rfl : fn = Tryd.f3 := (Option.some.inj (Tryd.func3.symm.trans hfn)).symm
      exact ⟨by kernel_rfl, fun j t ht => by
        rw [Tryd.params3] at ht
        rcases j with _ | j
        · obtain rfl : t = 3 := by simpa using ht.symm
          exact (show Tryd.prog.wantsStandIn 3 = false by kernel_rfl)
        simp at ht⟩)
    (by kernel_rfl)
#print axioms proved
end Go.Proofs.YtjklehlkgccmnaaDoor.formatOf

