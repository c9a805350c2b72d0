/- ModeNames: for every m and text the law returns true. Conditions: those of the tied card (the table of names is laid as the program lays it). -/
import Derived.Test.YtidfegilddlglabDoorXModH
import Derived.Test.YtidfegilddlglabDoorRows
import Derived.Test.YtidfegilddlglabDoorTie
import Derived.Test.YtidfegilddlglabDoorCards
import Derived.LaidMore
import Derived.Stop.Joined
import Derived.SevenTiedAt
import Derived.WalkKit
import Derived.ProofKit
import Derived.OpenShut
import Derived.ShutString
import Derived.ChangeOld
import Derived.Below
import Derived.ChangeMaps5
/- The walk of ModeNames. -/
set_option linter.unusedVariables false
set_option linter.unusedSimpArgs false
set_option maxRecDepth 8000
namespace Go.Proofs.YtidfegilddlglabDoor
open Go.RowKit Plain

structure NtSt (w W : World) : Prop where
  g : NamM W
  c : ∀ i, i < 5 → W.cell? ⟨w.heap.size, i, none⟩ = some (.string ⟨(mnmL.getD i []).toArray⟩)
  d : ∀ i, i < 5 → W.cell? ⟨w.heap.size + 1, i, none⟩ = some (.int .i64 ([1, 2, 3, 5, 4].getD i 0))
  lt : w.heap.size + 1 < W.heap.size
  bel : Below w.heap.size w W
theorem NtSt.below {w W W' : World} (h : NtSt w W) (hb : Below W.heap.size W W') : NtSt w W' :=
  ⟨h.g.below hb, fun i hi => (hb.cell (p := ⟨w.heap.size, i, none⟩) (Nat.lt_of_succ_lt h.lt)).trans (h.c i hi), fun i hi => (hb.cell (p := ⟨w.heap.size + 1, i, none⟩) h.lt).trans (h.d i hi), Nat.lt_of_lt_of_le h.lt hb.size, below_trans h.bel hb⟩
theorem ntSt_start (w : World) (hg : NamM w) : NtSt w ((w.alloc (.cells #[.string ⟨#[101, 118, 101, 110]⟩, .string ⟨#[97, 119, 97, 121]⟩, .string ⟨#[122, 101, 114, 111]⟩, .string ⟨#[117, 112]⟩, .string ⟨#[100, 111, 119, 110]⟩] 9)).alloc (.cells #[.int .i64 1, .int .i64 2, .int .i64 3, .int .i64 5, .int .i64 4] 3)) := by
  refine ⟨(hg.below (below_allocs _ _)).below (below_allocs _ _), fun i hi => ?_, fun i hi => ?_, by simp, below_trans (below_allocs _ _) (below_allocs _ _)⟩
  · match i, hi with
    | 0, _ | 1, _ | 2, _ | 3, _ | 4, _ => simp [go_sem, mnmL]
  · match i, hi with
    | 0, _ | 1, _ | 2, _ | 3, _ | 4, _ => simp [go_sem]
/-- The last name's number that is the text. -/
def wantF (b : Nat → Bool) : Nat → Int
  | 0 => 0
  | k + 1 => if b k then (k : Int) + 1 else wantF b k

set_option maxHeartbeats 2000000 in
theorem modeNames_0 (m : Int) (s : ByteArray) (b : Nat → Bool) (want : Int) (ok : Bool) (Hw : Hid (wantF b 5 = want)) (Hok : Hid (decide (0 < want) = ok))
    (Hb : Hid (∀ k, k < 5 → (mnmL.getD k [] == s.toList) = b k))
    (HI : Hid (∀ w, Calls Tryd.prog 4 #[.int .i64 m] w fun e w' => e = .returned (.bool false) ∧ w' = w))
    (HJ : Hid (∀ w, Calls Tryd.prog 6 #[.int .i64 m] w fun e w' => e = .returned (.bool false) ∧ w' = w))
    (HNA : Hid (∀ w, NamM w → Calls Tryd.prog 7 #[.int .i64 m] w fun e w' => e = .returned (.string ⟨#[]⟩) ∧ w' = w))
    (HMI : Hid (∀ w, Calls Tryd.prog 8 #[.int .i64 m] w fun e w' => e = .returned (.int .i64 0) ∧ w' = w))
    (HBN : Hid (∀ w, NamM w → Calls Tryd.prog 5 #[.string s] w fun e w' => e = .returned (.tuple #[.int .i64 want, .bool ok]) ∧ w' = w)) (w : World) (hg : NamM w) : Calls Tryd.prog 3 #[.int .i64 m, .string s] w fun e w' => e = .returned (.bool true) ∧ Below w.heap.size w w' := by
  have HST := hide (ntSt_start w hg)
  clear hg
  go_enter Tryd.func3, Tryd.ntmps3
  go_wp2_with fail
  refine (HI.out _).mono ?_
  rintro e wl ⟨rfl, hw⟩
  subst wl
  go_wp2_with fail
  refine (HBN.out _ HST.out.g).mono ?_
  rintro e wl ⟨rfl, hw⟩
  subst wl
  go_wp2_with fail
  go_loopw [11, 12] (fun v i wr => ∃ k : Nat, k ≤ 5 ∧ v = .int .i64 (wantF b k) ∧ i = .int .i64 k ∧ Hid (NtSt w wr)) (fun v i _ => 5 - (intOf i).toNat)
  case atStart => exact ⟨0, by decide, rfl, rfl, HST⟩
  case round =>
    clear HST
    obtain ⟨k, hk, rfl, rfl, hst⟩ := hrel
    have hk5 : k = 0 ∨ k = 1 ∨ k = 2 ∨ k = 3 ∨ k = 4 ∨ k = 5 := by omega
    rcases hk5 with rfl | rfl | rfl | rfl | rfl | rfl
    · have c : _ = some (Value.string ⟨#[101, 118, 101, 110]⟩) := hst.out.c 0 (by decide)
      have e : ([101, 118, 101, 110] == s.toList) = b 0 := Hb.out 0 (by decide)
      have hlt := hst.out.lt
      have ew : wantF b 1 = if b 0 then (1 : Int) else wantF b 0 := rfl
      generalize wantF b 0 = v at ew ⊢
      cases hb : b 0
      · rw [hb] at e ew
        go_wp2
        go_roundw
        case rel => exact ⟨1, by decide, by rw [ew]; rfl, rfl, hst⟩
        case measure => decide
      · rw [hb] at e ew
        go_wp2
        go_roundw
        case rel => exact ⟨1, by decide, by rw [ew]; rfl, rfl, hst⟩
        case measure => decide
    · have c : _ = some (Value.string ⟨#[97, 119, 97, 121]⟩) := hst.out.c 1 (by decide)
      have e : ([97, 119, 97, 121] == s.toList) = b 1 := Hb.out 1 (by decide)
      have hlt := hst.out.lt
      have ew : wantF b 2 = if b 1 then (2 : Int) else wantF b 1 := rfl
      generalize wantF b 1 = v at ew ⊢
      cases hb : b 1
      · rw [hb] at e ew
        go_wp2
        go_roundw
        case rel => exact ⟨2, by decide, by rw [ew]; rfl, rfl, hst⟩
        case measure => decide
      · rw [hb] at e ew
        go_wp2
        go_roundw
        case rel => exact ⟨2, by decide, by rw [ew]; rfl, rfl, hst⟩
        case measure => decide
    · have c : _ = some (Value.string ⟨#[122, 101, 114, 111]⟩) := hst.out.c 2 (by decide)
      have e : ([122, 101, 114, 111] == s.toList) = b 2 := Hb.out 2 (by decide)
      have hlt := hst.out.lt
      have ew : wantF b 3 = if b 2 then (3 : Int) else wantF b 2 := rfl
      generalize wantF b 2 = v at ew ⊢
      cases hb : b 2
      · rw [hb] at e ew
        go_wp2
        go_roundw
        case rel => exact ⟨3, by decide, by rw [ew]; rfl, rfl, hst⟩
        case measure => decide
      · rw [hb] at e ew
        go_wp2
        go_roundw
        case rel => exact ⟨3, by decide, by rw [ew]; rfl, rfl, hst⟩
        case measure => decide
    · have c : _ = some (Value.string ⟨#[117, 112]⟩) := hst.out.c 3 (by decide)
      have e : ([117, 112] == s.toList) = b 3 := Hb.out 3 (by decide)
      have hlt := hst.out.lt
      have ew : wantF b 4 = if b 3 then (4 : Int) else wantF b 3 := rfl
      generalize wantF b 3 = v at ew ⊢
      cases hb : b 3
      · rw [hb] at e ew
        go_wp2
        go_roundw
        case rel => exact ⟨4, by decide, by rw [ew]; rfl, rfl, hst⟩
        case measure => decide
      · rw [hb] at e ew
        go_wp2
        go_roundw
        case rel => exact ⟨4, by decide, by rw [ew]; rfl, rfl, hst⟩
        case measure => decide
    · have c : _ = some (Value.string ⟨#[100, 111, 119, 110]⟩) := hst.out.c 4 (by decide)
      have e : ([100, 111, 119, 110] == s.toList) = b 4 := Hb.out 4 (by decide)
      have hlt := hst.out.lt
      have ew : wantF b 5 = if b 4 then (5 : Int) else wantF b 4 := rfl
      generalize wantF b 4 = v at ew ⊢
      cases hb : b 4
      · rw [hb] at e ew
        go_wp2
        go_roundw
        case rel => exact ⟨5, by decide, by rw [ew]; rfl, rfl, hst⟩
        case measure => decide
      · rw [hb] at e ew
        go_wp2
        go_roundw
        case rel => exact ⟨5, by decide, by rw [ew]; rfl, rfl, hst⟩
        case measure => decide
    · have hw := Hw.out
      have hok := Hok.out
      rw [hw]
      clear Hw Hok hw
      go_wp2_with fail
      refine (HJ.out _).mono ?_
      rintro e wl ⟨rfl, hw⟩
      subst wl
      go_wp2_with fail
      refine (HI.out _).mono ?_
      rintro e wl ⟨rfl, hw⟩
      subst wl
      go_wp2_with fail
      refine (HNA.out _ hst.out.g).mono ?_
      rintro e wl ⟨rfl, hw⟩
      subst wl
      go_wp2_with fail
      refine (HMI.out _).mono ?_
      rintro e wl ⟨rfl, hw⟩
      subst wl
      go_wp2_with fail
      refine (awake8_any _).mono ?_
      rintro e w8 ⟨rfl, hb8⟩
      have HB := hide (below_trans hst.out.bel hb8)
      clear hb8 hst
      go_wp2
      go_ret
      exact ⟨rfl, HB.out⟩

set_option maxHeartbeats 2000000 in
theorem modeNames_1 (m : Int) (s : ByteArray) (b : Nat → Bool) (want : Int) (ok : Bool) (Hw : Hid (wantF b 5 = want)) (Hok : Hid (decide (0 < want) = ok))
    (Hb : Hid (∀ k, k < 5 → (mnmL.getD k [] == s.toList) = b k))
    (HI : Hid (∀ w, Calls Tryd.prog 4 #[.int .i64 1] w fun e w' => e = .returned (.bool true) ∧ w' = w))
    (HJ : Hid (∀ w, Calls Tryd.prog 6 #[.int .i64 1] w fun e w' => e = .returned (.bool true) ∧ w' = w))
    (HNA : Hid (∀ w, NamM w → Calls Tryd.prog 7 #[.int .i64 1] w fun e w' => e = .returned (.string ⟨#[101, 118, 101, 110]⟩) ∧ w' = w))
    (HMI : Hid (∀ w, Calls Tryd.prog 8 #[.int .i64 1] w fun e w' => e = .returned (.int .i64 1) ∧ w' = w))
    (HBN : Hid (∀ w, NamM w → Calls Tryd.prog 5 #[.string s] w fun e w' => e = .returned (.tuple #[.int .i64 want, .bool ok]) ∧ w' = w)) (w : World) (hg : NamM w) : Calls Tryd.prog 3 #[.int .i64 1, .string s] w fun e w' => e = .returned (.bool true) ∧ Below w.heap.size w w' := by
  have HST := hide (ntSt_start w hg)
  clear hg
  go_enter Tryd.func3, Tryd.ntmps3
  go_wp2_with fail
  refine (HI.out _).mono ?_
  rintro e wl ⟨rfl, hw⟩
  subst wl
  go_upto_region 5 with fail
  refine wp_gen (fun W => NtSt w W) HST.out ?_
  clear HST
  rintro W1 h1
  refine wp_region_grow 12 [(17, .val (.slice (some ⟨w.heap.size, 0, none⟩) 5 5)), (18, .val (.int .i64 1)), (19, .val (.int .i64 0)), (20, .val (.pointer (some ⟨w.heap.size, 0, none⟩))), (21, .val (.string ⟨#[101, 118, 101, 110]⟩)), (22, .val (.slice (some ⟨w.heap.size + 1, 0, none⟩) 5 5)), (23, .val (.int .i64 1)), (24, .val (.int .i64 0)), (25, .val (.pointer (some ⟨w.heap.size + 1, 0, none⟩))), (26, .val (.int .i64 1)), (7, .val (.string ⟨#[101, 118, 101, 110]⟩)), (8, .val (.int .i64 1))]
    (fun W => NtSt w W) mixedOk (by kernel_rfl) (by kernel_rfl) (h1.below (Below.refl _ _).drew) (fun W W' h hb => h.below hb) ?_ ?_
  · refine gSt (gStep_run rfl (gRun_move 5 17 (.inl rfl) rfl (by decide +kernel) (fun v w h => h))) ?_
    refine gSt (gStep_run rfl (gRun_move 0 18 (.inl rfl) rfl (by decide +kernel) (fun v w h => h))) ?_
    refine gSt (gStep_run rfl ?_) ?_
    · intro ρ W hC hc hf hL
      have e18 : ρ (.tmp 18) = .int .i64 1 := hL 18 (by decide +kernel)
      simp [go_sem, hc, hf, e18]
      exact ⟨Below.refl _ _, rfl⟩
    refine gSt (gStep_run rfl ?_) ?_
    · intro ρ W hC hc hf hL
      have e17 : ρ (.tmp 17) = .slice (some ⟨w.heap.size, 0, none⟩) 5 5 := hL 17 (by decide +kernel)
      have e19 : ρ (.tmp 19) = .int .i64 0 := hL 19 (by decide +kernel)
      simp [go_sem, hc, hf, e17, e19]
      exact ⟨Below.refl _ _, rfl⟩
    refine gSt (gStep_run rfl ?_) ?_
    · intro ρ W hC hc hf hL
      have e20 : ρ (.tmp 20) = .pointer (some ⟨w.heap.size, 0, none⟩) := hL 20 (by decide +kernel)
      have hl : W.cell? ⟨w.heap.size, 0, none⟩ = some (.string ⟨#[101, 118, 101, 110]⟩) := hC.c 0 (by decide)
      simp [go_sem, hc, hf, e20, hl]
      exact ⟨Below.refl _ _, rfl⟩
    refine gSt (gStep_run rfl (gRun_move 6 22 (.inl rfl) rfl (by decide +kernel) (fun v w h => h))) ?_
    refine gSt (gStep_run rfl (gRun_move 0 23 (.inl rfl) rfl (by decide +kernel) (fun v w h => h))) ?_
    refine gSt (gStep_run rfl ?_) ?_
    · intro ρ W hC hc hf hL
      have e23 : ρ (.tmp 23) = .int .i64 1 := hL 23 (by decide +kernel)
      simp [go_sem, hc, hf, e23]
      exact ⟨Below.refl _ _, rfl⟩
    refine gSt (gStep_run rfl ?_) ?_
    · intro ρ W hC hc hf hL
      have e22 : ρ (.tmp 22) = .slice (some ⟨w.heap.size + 1, 0, none⟩) 5 5 := hL 22 (by decide +kernel)
      have e24 : ρ (.tmp 24) = .int .i64 0 := hL 24 (by decide +kernel)
      simp [go_sem, hc, hf, e22, e24]
      exact ⟨Below.refl _ _, rfl⟩
    refine gSt (gStep_run rfl ?_) ?_
    · intro ρ W hC hc hf hL
      have e25 : ρ (.tmp 25) = .pointer (some ⟨w.heap.size + 1, 0, none⟩) := hL 25 (by decide +kernel)
      have hl : W.cell? ⟨w.heap.size + 1, 0, none⟩ = some (.int .i64 1) := hC.d 0 (by decide)
      simp [go_sem, hc, hf, e25, hl]
      exact ⟨Below.refl _ _, rfl⟩
    refine gSt (gStep_run rfl (gRun_move 21 7 (.inr rfl) rfl (by decide +kernel) (fun v w h => h))) ?_
    refine gSt (gStep_run rfl (gRun_move 26 8 (.inr rfl) rfl (by decide +kernel) (fun v w h => h))) ?_
    exact gSt0
  · intro W hC
    refine gFi 17 rfl ?_
    rintro _ rfl
    refine gFi 18 rfl ?_
    rintro _ rfl
    refine gFi 19 rfl ?_
    rintro _ rfl
    refine gFi 20 rfl ?_
    rintro _ rfl
    refine gFi 21 rfl ?_
    rintro _ rfl
    refine gFi 22 rfl ?_
    rintro _ rfl
    refine gFi 23 rfl ?_
    rintro _ rfl
    refine gFi 24 rfl ?_
    rintro _ rfl
    refine gFi 25 rfl ?_
    rintro _ rfl
    refine gFi 26 rfl ?_
    rintro _ rfl
    refine gFi 7 rfl ?_
    rintro _ rfl
    refine gFi 8 rfl ?_
    rintro _ rfl
    refine gFi0 ?_
    simp only [List.drop_succ_cons, List.drop_zero, Act.put, List.setIfInBounds_toArray, List.set_cons_succ, List.set_cons_zero]
    have HST := hide hC
    clear hC h1
    go_wp2_with fail
    refine (HBN.out _ HST.out.g).mono ?_
    rintro e wl ⟨rfl, hw⟩
    subst wl
    go_wp2_with fail
    go_loopw [11, 12] (fun v i wr => ∃ k : Nat, k ≤ 5 ∧ v = .int .i64 (wantF b k) ∧ i = .int .i64 k ∧ Hid (NtSt w wr)) (fun v i _ => 5 - (intOf i).toNat)
    case atStart => exact ⟨0, by decide, rfl, rfl, HST⟩
    case round =>
      clear HST
      obtain ⟨k, hk, rfl, rfl, hst⟩ := hrel
      have hk5 : k = 0 ∨ k = 1 ∨ k = 2 ∨ k = 3 ∨ k = 4 ∨ k = 5 := by omega
      rcases hk5 with rfl | rfl | rfl | rfl | rfl | rfl
      · have c : _ = some (Value.string ⟨#[101, 118, 101, 110]⟩) := hst.out.c 0 (by decide)
        have e : ([101, 118, 101, 110] == s.toList) = b 0 := Hb.out 0 (by decide)
        have hlt := hst.out.lt
        have ew : wantF b 1 = if b 0 then (1 : Int) else wantF b 0 := rfl
        generalize wantF b 0 = v at ew ⊢
        cases hb : b 0
        · rw [hb] at e ew
          go_wp2
          go_roundw
          case rel => exact ⟨1, by decide, by rw [ew]; rfl, rfl, hst⟩
          case measure => decide
        · rw [hb] at e ew
          go_wp2
          go_roundw
          case rel => exact ⟨1, by decide, by rw [ew]; rfl, rfl, hst⟩
          case measure => decide
      · have c : _ = some (Value.string ⟨#[97, 119, 97, 121]⟩) := hst.out.c 1 (by decide)
        have e : ([97, 119, 97, 121] == s.toList) = b 1 := Hb.out 1 (by decide)
        have hlt := hst.out.lt
        have ew : wantF b 2 = if b 1 then (2 : Int) else wantF b 1 := rfl
        generalize wantF b 1 = v at ew ⊢
        cases hb : b 1
        · rw [hb] at e ew
          go_wp2
          go_roundw
          case rel => exact ⟨2, by decide, by rw [ew]; rfl, rfl, hst⟩
          case measure => decide
        · rw [hb] at e ew
          go_wp2
          go_roundw
          case rel => exact ⟨2, by decide, by rw [ew]; rfl, rfl, hst⟩
          case measure => decide
      · have c : _ = some (Value.string ⟨#[122, 101, 114, 111]⟩) := hst.out.c 2 (by decide)
        have e : ([122, 101, 114, 111] == s.toList) = b 2 := Hb.out 2 (by decide)
        have hlt := hst.out.lt
        have ew : wantF b 3 = if b 2 then (3 : Int) else wantF b 2 := rfl
        generalize wantF b 2 = v at ew ⊢
        cases hb : b 2
        · rw [hb] at e ew
          go_wp2
          go_roundw
          case rel => exact ⟨3, by decide, by rw [ew]; rfl, rfl, hst⟩
          case measure => decide
        · rw [hb] at e ew
          go_wp2
          go_roundw
          case rel => exact ⟨3, by decide, by rw [ew]; rfl, rfl, hst⟩
          case measure => decide
      · have c : _ = some (Value.string ⟨#[117, 112]⟩) := hst.out.c 3 (by decide)
        have e : ([117, 112] == s.toList) = b 3 := Hb.out 3 (by decide)
        have hlt := hst.out.lt
        have ew : wantF b 4 = if b 3 then (4 : Int) else wantF b 3 := rfl
        generalize wantF b 3 = v at ew ⊢
        cases hb : b 3
        · rw [hb] at e ew
          go_wp2
          go_roundw
          case rel => exact ⟨4, by decide, by rw [ew]; rfl, rfl, hst⟩
          case measure => decide
        · rw [hb] at e ew
          go_wp2
          go_roundw
          case rel => exact ⟨4, by decide, by rw [ew]; rfl, rfl, hst⟩
          case measure => decide
      · have c : _ = some (Value.string ⟨#[100, 111, 119, 110]⟩) := hst.out.c 4 (by decide)
        have e : ([100, 111, 119, 110] == s.toList) = b 4 := Hb.out 4 (by decide)
        have hlt := hst.out.lt
        have ew : wantF b 5 = if b 4 then (5 : Int) else wantF b 4 := rfl
        generalize wantF b 4 = v at ew ⊢
        cases hb : b 4
        · rw [hb] at e ew
          go_wp2
          go_roundw
          case rel => exact ⟨5, by decide, by rw [ew]; rfl, rfl, hst⟩
          case measure => decide
        · rw [hb] at e ew
          go_wp2
          go_roundw
          case rel => exact ⟨5, by decide, by rw [ew]; rfl, rfl, hst⟩
          case measure => decide
      · have hw := Hw.out
        have hok := Hok.out
        rw [hw]
        clear Hw Hok hw
        go_wp2_with fail
        refine (HJ.out _).mono ?_
        rintro e wl ⟨rfl, hw⟩
        subst wl
        go_wp2_with fail
        refine (HI.out _).mono ?_
        rintro e wl ⟨rfl, hw⟩
        subst wl
        go_wp2_with fail
        refine (HNA.out _ hst.out.g).mono ?_
        rintro e wl ⟨rfl, hw⟩
        subst wl
        go_wp2_with fail
        refine (HMI.out _).mono ?_
        rintro e wl ⟨rfl, hw⟩
        subst wl
        go_wp2_with fail
        refine (awake8_any _).mono ?_
        rintro e w8 ⟨rfl, hb8⟩
        have HB := hide (below_trans hst.out.bel hb8)
        clear hb8 hst
        go_wp2
        go_ret
        exact ⟨rfl, HB.out⟩

set_option maxHeartbeats 2000000 in
theorem modeNames_2 (m : Int) (s : ByteArray) (b : Nat → Bool) (want : Int) (ok : Bool) (Hw : Hid (wantF b 5 = want)) (Hok : Hid (decide (0 < want) = ok))
    (Hb : Hid (∀ k, k < 5 → (mnmL.getD k [] == s.toList) = b k))
    (HI : Hid (∀ w, Calls Tryd.prog 4 #[.int .i64 2] w fun e w' => e = .returned (.bool true) ∧ w' = w))
    (HJ : Hid (∀ w, Calls Tryd.prog 6 #[.int .i64 2] w fun e w' => e = .returned (.bool true) ∧ w' = w))
    (HNA : Hid (∀ w, NamM w → Calls Tryd.prog 7 #[.int .i64 2] w fun e w' => e = .returned (.string ⟨#[97, 119, 97, 121]⟩) ∧ w' = w))
    (HMI : Hid (∀ w, Calls Tryd.prog 8 #[.int .i64 2] w fun e w' => e = .returned (.int .i64 2) ∧ w' = w))
    (HBN : Hid (∀ w, NamM w → Calls Tryd.prog 5 #[.string s] w fun e w' => e = .returned (.tuple #[.int .i64 want, .bool ok]) ∧ w' = w)) (w : World) (hg : NamM w) : Calls Tryd.prog 3 #[.int .i64 2, .string s] w fun e w' => e = .returned (.bool true) ∧ Below w.heap.size w w' := by
  have HST := hide (ntSt_start w hg)
  clear hg
  go_enter Tryd.func3, Tryd.ntmps3
  go_wp2_with fail
  refine (HI.out _).mono ?_
  rintro e wl ⟨rfl, hw⟩
  subst wl
  go_upto_region 5 with fail
  refine wp_gen (fun W => NtSt w W) HST.out ?_
  clear HST
  rintro W1 h1
  refine wp_region_grow 12 [(17, .val (.slice (some ⟨w.heap.size, 0, none⟩) 5 5)), (18, .val (.int .i64 2)), (19, .val (.int .i64 1)), (20, .val (.pointer (some ⟨w.heap.size, 1, none⟩))), (21, .val (.string ⟨#[97, 119, 97, 121]⟩)), (22, .val (.slice (some ⟨w.heap.size + 1, 0, none⟩) 5 5)), (23, .val (.int .i64 2)), (24, .val (.int .i64 1)), (25, .val (.pointer (some ⟨w.heap.size + 1, 1, none⟩))), (26, .val (.int .i64 2)), (7, .val (.string ⟨#[97, 119, 97, 121]⟩)), (8, .val (.int .i64 2))]
    (fun W => NtSt w W) mixedOk (by kernel_rfl) (by kernel_rfl) (h1.below (Below.refl _ _).drew) (fun W W' h hb => h.below hb) ?_ ?_
  · refine gSt (gStep_run rfl (gRun_move 5 17 (.inl rfl) rfl (by decide +kernel) (fun v w h => h))) ?_
    refine gSt (gStep_run rfl (gRun_move 0 18 (.inl rfl) rfl (by decide +kernel) (fun v w h => h))) ?_
    refine gSt (gStep_run rfl ?_) ?_
    · intro ρ W hC hc hf hL
      have e18 : ρ (.tmp 18) = .int .i64 2 := hL 18 (by decide +kernel)
      simp [go_sem, hc, hf, e18]
      exact ⟨Below.refl _ _, rfl⟩
    refine gSt (gStep_run rfl ?_) ?_
    · intro ρ W hC hc hf hL
      have e17 : ρ (.tmp 17) = .slice (some ⟨w.heap.size, 0, none⟩) 5 5 := hL 17 (by decide +kernel)
      have e19 : ρ (.tmp 19) = .int .i64 1 := hL 19 (by decide +kernel)
      simp [go_sem, hc, hf, e17, e19]
      exact ⟨Below.refl _ _, rfl⟩
    refine gSt (gStep_run rfl ?_) ?_
    · intro ρ W hC hc hf hL
      have e20 : ρ (.tmp 20) = .pointer (some ⟨w.heap.size, 1, none⟩) := hL 20 (by decide +kernel)
      have hl : W.cell? ⟨w.heap.size, 1, none⟩ = some (.string ⟨#[97, 119, 97, 121]⟩) := hC.c 1 (by decide)
      simp [go_sem, hc, hf, e20, hl]
      exact ⟨Below.refl _ _, rfl⟩
    refine gSt (gStep_run rfl (gRun_move 6 22 (.inl rfl) rfl (by decide +kernel) (fun v w h => h))) ?_
    refine gSt (gStep_run rfl (gRun_move 0 23 (.inl rfl) rfl (by decide +kernel) (fun v w h => h))) ?_
    refine gSt (gStep_run rfl ?_) ?_
    · intro ρ W hC hc hf hL
      have e23 : ρ (.tmp 23) = .int .i64 2 := hL 23 (by decide +kernel)
      simp [go_sem, hc, hf, e23]
      exact ⟨Below.refl _ _, rfl⟩
    refine gSt (gStep_run rfl ?_) ?_
    · intro ρ W hC hc hf hL
      have e22 : ρ (.tmp 22) = .slice (some ⟨w.heap.size + 1, 0, none⟩) 5 5 := hL 22 (by decide +kernel)
      have e24 : ρ (.tmp 24) = .int .i64 1 := hL 24 (by decide +kernel)
      simp [go_sem, hc, hf, e22, e24]
      exact ⟨Below.refl _ _, rfl⟩
    refine gSt (gStep_run rfl ?_) ?_
    · intro ρ W hC hc hf hL
      have e25 : ρ (.tmp 25) = .pointer (some ⟨w.heap.size + 1, 1, none⟩) := hL 25 (by decide +kernel)
      have hl : W.cell? ⟨w.heap.size + 1, 1, none⟩ = some (.int .i64 2) := hC.d 1 (by decide)
      simp [go_sem, hc, hf, e25, hl]
      exact ⟨Below.refl _ _, rfl⟩
    refine gSt (gStep_run rfl (gRun_move 21 7 (.inr rfl) rfl (by decide +kernel) (fun v w h => h))) ?_
    refine gSt (gStep_run rfl (gRun_move 26 8 (.inr rfl) rfl (by decide +kernel) (fun v w h => h))) ?_
    exact gSt0
  · intro W hC
    refine gFi 17 rfl ?_
    rintro _ rfl
    refine gFi 18 rfl ?_
    rintro _ rfl
    refine gFi 19 rfl ?_
    rintro _ rfl
    refine gFi 20 rfl ?_
    rintro _ rfl
    refine gFi 21 rfl ?_
    rintro _ rfl
    refine gFi 22 rfl ?_
    rintro _ rfl
    refine gFi 23 rfl ?_
    rintro _ rfl
    refine gFi 24 rfl ?_
    rintro _ rfl
    refine gFi 25 rfl ?_
    rintro _ rfl
    refine gFi 26 rfl ?_
    rintro _ rfl
    refine gFi 7 rfl ?_
    rintro _ rfl
    refine gFi 8 rfl ?_
    rintro _ rfl
    refine gFi0 ?_
    simp only [List.drop_succ_cons, List.drop_zero, Act.put, List.setIfInBounds_toArray, List.set_cons_succ, List.set_cons_zero]
    have HST := hide hC
    clear hC h1
    go_wp2_with fail
    refine (HBN.out _ HST.out.g).mono ?_
    rintro e wl ⟨rfl, hw⟩
    subst wl
    go_wp2_with fail
    go_loopw [11, 12] (fun v i wr => ∃ k : Nat, k ≤ 5 ∧ v = .int .i64 (wantF b k) ∧ i = .int .i64 k ∧ Hid (NtSt w wr)) (fun v i _ => 5 - (intOf i).toNat)
    case atStart => exact ⟨0, by decide, rfl, rfl, HST⟩
    case round =>
      clear HST
      obtain ⟨k, hk, rfl, rfl, hst⟩ := hrel
      have hk5 : k = 0 ∨ k = 1 ∨ k = 2 ∨ k = 3 ∨ k = 4 ∨ k = 5 := by omega
      rcases hk5 with rfl | rfl | rfl | rfl | rfl | rfl
      · have c : _ = some (Value.string ⟨#[101, 118, 101, 110]⟩) := hst.out.c 0 (by decide)
        have e : ([101, 118, 101, 110] == s.toList) = b 0 := Hb.out 0 (by decide)
        have hlt := hst.out.lt
        have ew : wantF b 1 = if b 0 then (1 : Int) else wantF b 0 := rfl
        generalize wantF b 0 = v at ew ⊢
        cases hb : b 0
        · rw [hb] at e ew
          go_wp2
          go_roundw
          case rel => exact ⟨1, by decide, by rw [ew]; rfl, rfl, hst⟩
          case measure => decide
        · rw [hb] at e ew
          go_wp2
          go_roundw
          case rel => exact ⟨1, by decide, by rw [ew]; rfl, rfl, hst⟩
          case measure => decide
      · have c : _ = some (Value.string ⟨#[97, 119, 97, 121]⟩) := hst.out.c 1 (by decide)
        have e : ([97, 119, 97, 121] == s.toList) = b 1 := Hb.out 1 (by decide)
        have hlt := hst.out.lt
        have ew : wantF b 2 = if b 1 then (2 : Int) else wantF b 1 := rfl
        generalize wantF b 1 = v at ew ⊢
        cases hb : b 1
        · rw [hb] at e ew
          go_wp2
          go_roundw
          case rel => exact ⟨2, by decide, by rw [ew]; rfl, rfl, hst⟩
          case measure => decide
        · rw [hb] at e ew
          go_wp2
          go_roundw
          case rel => exact ⟨2, by decide, by rw [ew]; rfl, rfl, hst⟩
          case measure => decide
      · have c : _ = some (Value.string ⟨#[122, 101, 114, 111]⟩) := hst.out.c 2 (by decide)
        have e : ([122, 101, 114, 111] == s.toList) = b 2 := Hb.out 2 (by decide)
        have hlt := hst.out.lt
        have ew : wantF b 3 = if b 2 then (3 : Int) else wantF b 2 := rfl
        generalize wantF b 2 = v at ew ⊢
        cases hb : b 2
        · rw [hb] at e ew
          go_wp2
          go_roundw
          case rel => exact ⟨3, by decide, by rw [ew]; rfl, rfl, hst⟩
          case measure => decide
        · rw [hb] at e ew
          go_wp2
          go_roundw
          case rel => exact ⟨3, by decide, by rw [ew]; rfl, rfl, hst⟩
          case measure => decide
      · have c : _ = some (Value.string ⟨#[117, 112]⟩) := hst.out.c 3 (by decide)
        have e : ([117, 112] == s.toList) = b 3 := Hb.out 3 (by decide)
        have hlt := hst.out.lt
        have ew : wantF b 4 = if b 3 then (4 : Int) else wantF b 3 := rfl
        generalize wantF b 3 = v at ew ⊢
        cases hb : b 3
        · rw [hb] at e ew
          go_wp2
          go_roundw
          case rel => exact ⟨4, by decide, by rw [ew]; rfl, rfl, hst⟩
          case measure => decide
        · rw [hb] at e ew
          go_wp2
          go_roundw
          case rel => exact ⟨4, by decide, by rw [ew]; rfl, rfl, hst⟩
          case measure => decide
      · have c : _ = some (Value.string ⟨#[100, 111, 119, 110]⟩) := hst.out.c 4 (by decide)
        have e : ([100, 111, 119, 110] == s.toList) = b 4 := Hb.out 4 (by decide)
        have hlt := hst.out.lt
        have ew : wantF b 5 = if b 4 then (5 : Int) else wantF b 4 := rfl
        generalize wantF b 4 = v at ew ⊢
        cases hb : b 4
        · rw [hb] at e ew
          go_wp2
          go_roundw
          case rel => exact ⟨5, by decide, by rw [ew]; rfl, rfl, hst⟩
          case measure => decide
        · rw [hb] at e ew
          go_wp2
          go_roundw
          case rel => exact ⟨5, by decide, by rw [ew]; rfl, rfl, hst⟩
          case measure => decide
      · have hw := Hw.out
        have hok := Hok.out
        rw [hw]
        clear Hw Hok hw
        go_wp2_with fail
        refine (HJ.out _).mono ?_
        rintro e wl ⟨rfl, hw⟩
        subst wl
        go_wp2_with fail
        refine (HI.out _).mono ?_
        rintro e wl ⟨rfl, hw⟩
        subst wl
        go_wp2_with fail
        refine (HNA.out _ hst.out.g).mono ?_
        rintro e wl ⟨rfl, hw⟩
        subst wl
        go_wp2_with fail
        refine (HMI.out _).mono ?_
        rintro e wl ⟨rfl, hw⟩
        subst wl
        go_wp2_with fail
        refine (awake8_any _).mono ?_
        rintro e w8 ⟨rfl, hb8⟩
        have HB := hide (below_trans hst.out.bel hb8)
        clear hb8 hst
        go_wp2
        go_ret
        exact ⟨rfl, HB.out⟩

set_option maxHeartbeats 2000000 in
theorem modeNames_3 (m : Int) (s : ByteArray) (b : Nat → Bool) (want : Int) (ok : Bool) (Hw : Hid (wantF b 5 = want)) (Hok : Hid (decide (0 < want) = ok))
    (Hb : Hid (∀ k, k < 5 → (mnmL.getD k [] == s.toList) = b k))
    (HI : Hid (∀ w, Calls Tryd.prog 4 #[.int .i64 3] w fun e w' => e = .returned (.bool true) ∧ w' = w))
    (HJ : Hid (∀ w, Calls Tryd.prog 6 #[.int .i64 3] w fun e w' => e = .returned (.bool true) ∧ w' = w))
    (HNA : Hid (∀ w, NamM w → Calls Tryd.prog 7 #[.int .i64 3] w fun e w' => e = .returned (.string ⟨#[122, 101, 114, 111]⟩) ∧ w' = w))
    (HMI : Hid (∀ w, Calls Tryd.prog 8 #[.int .i64 3] w fun e w' => e = .returned (.int .i64 3) ∧ w' = w))
    (HBN : Hid (∀ w, NamM w → Calls Tryd.prog 5 #[.string s] w fun e w' => e = .returned (.tuple #[.int .i64 want, .bool ok]) ∧ w' = w)) (w : World) (hg : NamM w) : Calls Tryd.prog 3 #[.int .i64 3, .string s] w fun e w' => e = .returned (.bool true) ∧ Below w.heap.size w w' := by
  have HST := hide (ntSt_start w hg)
  clear hg
  go_enter Tryd.func3, Tryd.ntmps3
  go_wp2_with fail
  refine (HI.out _).mono ?_
  rintro e wl ⟨rfl, hw⟩
  subst wl
  go_upto_region 5 with fail
  refine wp_gen (fun W => NtSt w W) HST.out ?_
  clear HST
  rintro W1 h1
  refine wp_region_grow 12 [(17, .val (.slice (some ⟨w.heap.size, 0, none⟩) 5 5)), (18, .val (.int .i64 3)), (19, .val (.int .i64 2)), (20, .val (.pointer (some ⟨w.heap.size, 2, none⟩))), (21, .val (.string ⟨#[122, 101, 114, 111]⟩)), (22, .val (.slice (some ⟨w.heap.size + 1, 0, none⟩) 5 5)), (23, .val (.int .i64 3)), (24, .val (.int .i64 2)), (25, .val (.pointer (some ⟨w.heap.size + 1, 2, none⟩))), (26, .val (.int .i64 3)), (7, .val (.string ⟨#[122, 101, 114, 111]⟩)), (8, .val (.int .i64 3))]
    (fun W => NtSt w W) mixedOk (by kernel_rfl) (by kernel_rfl) (h1.below (Below.refl _ _).drew) (fun W W' h hb => h.below hb) ?_ ?_
  · refine gSt (gStep_run rfl (gRun_move 5 17 (.inl rfl) rfl (by decide +kernel) (fun v w h => h))) ?_
    refine gSt (gStep_run rfl (gRun_move 0 18 (.inl rfl) rfl (by decide +kernel) (fun v w h => h))) ?_
    refine gSt (gStep_run rfl ?_) ?_
    · intro ρ W hC hc hf hL
      have e18 : ρ (.tmp 18) = .int .i64 3 := hL 18 (by decide +kernel)
      simp [go_sem, hc, hf, e18]
      exact ⟨Below.refl _ _, rfl⟩
    refine gSt (gStep_run rfl ?_) ?_
    · intro ρ W hC hc hf hL
      have e17 : ρ (.tmp 17) = .slice (some ⟨w.heap.size, 0, none⟩) 5 5 := hL 17 (by decide +kernel)
      have e19 : ρ (.tmp 19) = .int .i64 2 := hL 19 (by decide +kernel)
      simp [go_sem, hc, hf, e17, e19]
      exact ⟨Below.refl _ _, rfl⟩
    refine gSt (gStep_run rfl ?_) ?_
    · intro ρ W hC hc hf hL
      have e20 : ρ (.tmp 20) = .pointer (some ⟨w.heap.size, 2, none⟩) := hL 20 (by decide +kernel)
      have hl : W.cell? ⟨w.heap.size, 2, none⟩ = some (.string ⟨#[122, 101, 114, 111]⟩) := hC.c 2 (by decide)
      simp [go_sem, hc, hf, e20, hl]
      exact ⟨Below.refl _ _, rfl⟩
    refine gSt (gStep_run rfl (gRun_move 6 22 (.inl rfl) rfl (by decide +kernel) (fun v w h => h))) ?_
    refine gSt (gStep_run rfl (gRun_move 0 23 (.inl rfl) rfl (by decide +kernel) (fun v w h => h))) ?_
    refine gSt (gStep_run rfl ?_) ?_
    · intro ρ W hC hc hf hL
      have e23 : ρ (.tmp 23) = .int .i64 3 := hL 23 (by decide +kernel)
      simp [go_sem, hc, hf, e23]
      exact ⟨Below.refl _ _, rfl⟩
    refine gSt (gStep_run rfl ?_) ?_
    · intro ρ W hC hc hf hL
      have e22 : ρ (.tmp 22) = .slice (some ⟨w.heap.size + 1, 0, none⟩) 5 5 := hL 22 (by decide +kernel)
      have e24 : ρ (.tmp 24) = .int .i64 2 := hL 24 (by decide +kernel)
      simp [go_sem, hc, hf, e22, e24]
      exact ⟨Below.refl _ _, rfl⟩
    refine gSt (gStep_run rfl ?_) ?_
    · intro ρ W hC hc hf hL
      have e25 : ρ (.tmp 25) = .pointer (some ⟨w.heap.size + 1, 2, none⟩) := hL 25 (by decide +kernel)
      have hl : W.cell? ⟨w.heap.size + 1, 2, none⟩ = some (.int .i64 3) := hC.d 2 (by decide)
      simp [go_sem, hc, hf, e25, hl]
      exact ⟨Below.refl _ _, rfl⟩
    refine gSt (gStep_run rfl (gRun_move 21 7 (.inr rfl) rfl (by decide +kernel) (fun v w h => h))) ?_
    refine gSt (gStep_run rfl (gRun_move 26 8 (.inr rfl) rfl (by decide +kernel) (fun v w h => h))) ?_
    exact gSt0
  · intro W hC
    refine gFi 17 rfl ?_
    rintro _ rfl
    refine gFi 18 rfl ?_
    rintro _ rfl
    refine gFi 19 rfl ?_
    rintro _ rfl
    refine gFi 20 rfl ?_
    rintro _ rfl
    refine gFi 21 rfl ?_
    rintro _ rfl
    refine gFi 22 rfl ?_
    rintro _ rfl
    refine gFi 23 rfl ?_
    rintro _ rfl
    refine gFi 24 rfl ?_
    rintro _ rfl
    refine gFi 25 rfl ?_
    rintro _ rfl
    refine gFi 26 rfl ?_
    rintro _ rfl
    refine gFi 7 rfl ?_
    rintro _ rfl
    refine gFi 8 rfl ?_
    rintro _ rfl
    refine gFi0 ?_
    simp only [List.drop_succ_cons, List.drop_zero, Act.put, List.setIfInBounds_toArray, List.set_cons_succ, List.set_cons_zero]
    have HST := hide hC
    clear hC h1
    go_wp2_with fail
    refine (HBN.out _ HST.out.g).mono ?_
    rintro e wl ⟨rfl, hw⟩
    subst wl
    go_wp2_with fail
    go_loopw [11, 12] (fun v i wr => ∃ k : Nat, k ≤ 5 ∧ v = .int .i64 (wantF b k) ∧ i = .int .i64 k ∧ Hid (NtSt w wr)) (fun v i _ => 5 - (intOf i).toNat)
    case atStart => exact ⟨0, by decide, rfl, rfl, HST⟩
    case round =>
      clear HST
      obtain ⟨k, hk, rfl, rfl, hst⟩ := hrel
      have hk5 : k = 0 ∨ k = 1 ∨ k = 2 ∨ k = 3 ∨ k = 4 ∨ k = 5 := by omega
      rcases hk5 with rfl | rfl | rfl | rfl | rfl | rfl
      · have c : _ = some (Value.string ⟨#[101, 118, 101, 110]⟩) := hst.out.c 0 (by decide)
        have e : ([101, 118, 101, 110] == s.toList) = b 0 := Hb.out 0 (by decide)
        have hlt := hst.out.lt
        have ew : wantF b 1 = if b 0 then (1 : Int) else wantF b 0 := rfl
        generalize wantF b 0 = v at ew ⊢
        cases hb : b 0
        · rw [hb] at e ew
          go_wp2
          go_roundw
          case rel => exact ⟨1, by decide, by rw [ew]; rfl, rfl, hst⟩
          case measure => decide
        · rw [hb] at e ew
          go_wp2
          go_roundw
          case rel => exact ⟨1, by decide, by rw [ew]; rfl, rfl, hst⟩
          case measure => decide
      · have c : _ = some (Value.string ⟨#[97, 119, 97, 121]⟩) := hst.out.c 1 (by decide)
        have e : ([97, 119, 97, 121] == s.toList) = b 1 := Hb.out 1 (by decide)
        have hlt := hst.out.lt
        have ew : wantF b 2 = if b 1 then (2 : Int) else wantF b 1 := rfl
        generalize wantF b 1 = v at ew ⊢
        cases hb : b 1
        · rw [hb] at e ew
          go_wp2
          go_roundw
          case rel => exact ⟨2, by decide, by rw [ew]; rfl, rfl, hst⟩
          case measure => decide
        · rw [hb] at e ew
          go_wp2
          go_roundw
          case rel => exact ⟨2, by decide, by rw [ew]; rfl, rfl, hst⟩
          case measure => decide
      · have c : _ = some (Value.string ⟨#[122, 101, 114, 111]⟩) := hst.out.c 2 (by decide)
        have e : ([122, 101, 114, 111] == s.toList) = b 2 := Hb.out 2 (by decide)
        have hlt := hst.out.lt
        have ew : wantF b 3 = if b 2 then (3 : Int) else wantF b 2 := rfl
        generalize wantF b 2 = v at ew ⊢
        cases hb : b 2
        · rw [hb] at e ew
          go_wp2
          go_roundw
          case rel => exact ⟨3, by decide, by rw [ew]; rfl, rfl, hst⟩
          case measure => decide
        · rw [hb] at e ew
          go_wp2
          go_roundw
          case rel => exact ⟨3, by decide, by rw [ew]; rfl, rfl, hst⟩
          case measure => decide
      · have c : _ = some (Value.string ⟨#[117, 112]⟩) := hst.out.c 3 (by decide)
        have e : ([117, 112] == s.toList) = b 3 := Hb.out 3 (by decide)
        have hlt := hst.out.lt
        have ew : wantF b 4 = if b 3 then (4 : Int) else wantF b 3 := rfl
        generalize wantF b 3 = v at ew ⊢
        cases hb : b 3
        · rw [hb] at e ew
          go_wp2
          go_roundw
          case rel => exact ⟨4, by decide, by rw [ew]; rfl, rfl, hst⟩
          case measure => decide
        · rw [hb] at e ew
          go_wp2
          go_roundw
          case rel => exact ⟨4, by decide, by rw [ew]; rfl, rfl, hst⟩
          case measure => decide
      · have c : _ = some (Value.string ⟨#[100, 111, 119, 110]⟩) := hst.out.c 4 (by decide)
        have e : ([100, 111, 119, 110] == s.toList) = b 4 := Hb.out 4 (by decide)
        have hlt := hst.out.lt
        have ew : wantF b 5 = if b 4 then (5 : Int) else wantF b 4 := rfl
        generalize wantF b 4 = v at ew ⊢
        cases hb : b 4
        · rw [hb] at e ew
          go_wp2
          go_roundw
          case rel => exact ⟨5, by decide, by rw [ew]; rfl, rfl, hst⟩
          case measure => decide
        · rw [hb] at e ew
          go_wp2
          go_roundw
          case rel => exact ⟨5, by decide, by rw [ew]; rfl, rfl, hst⟩
          case measure => decide
      · have hw := Hw.out
        have hok := Hok.out
        rw [hw]
        clear Hw Hok hw
        go_wp2_with fail
        refine (HJ.out _).mono ?_
        rintro e wl ⟨rfl, hw⟩
        subst wl
        go_wp2_with fail
        refine (HI.out _).mono ?_
        rintro e wl ⟨rfl, hw⟩
        subst wl
        go_wp2_with fail
        refine (HNA.out _ hst.out.g).mono ?_
        rintro e wl ⟨rfl, hw⟩
        subst wl
        go_wp2_with fail
        refine (HMI.out _).mono ?_
        rintro e wl ⟨rfl, hw⟩
        subst wl
        go_wp2_with fail
        refine (awake8_any _).mono ?_
        rintro e w8 ⟨rfl, hb8⟩
        have HB := hide (below_trans hst.out.bel hb8)
        clear hb8 hst
        go_wp2
        go_ret
        exact ⟨rfl, HB.out⟩

set_option maxHeartbeats 2000000 in
theorem modeNames_4 (m : Int) (s : ByteArray) (b : Nat → Bool) (want : Int) (ok : Bool) (Hw : Hid (wantF b 5 = want)) (Hok : Hid (decide (0 < want) = ok))
    (Hb : Hid (∀ k, k < 5 → (mnmL.getD k [] == s.toList) = b k))
    (HI : Hid (∀ w, Calls Tryd.prog 4 #[.int .i64 4] w fun e w' => e = .returned (.bool true) ∧ w' = w))
    (HJ : Hid (∀ w, Calls Tryd.prog 6 #[.int .i64 4] w fun e w' => e = .returned (.bool true) ∧ w' = w))
    (HNA : Hid (∀ w, NamM w → Calls Tryd.prog 7 #[.int .i64 4] w fun e w' => e = .returned (.string ⟨#[117, 112]⟩) ∧ w' = w))
    (HMI : Hid (∀ w, Calls Tryd.prog 8 #[.int .i64 4] w fun e w' => e = .returned (.int .i64 5) ∧ w' = w))
    (HBN : Hid (∀ w, NamM w → Calls Tryd.prog 5 #[.string s] w fun e w' => e = .returned (.tuple #[.int .i64 want, .bool ok]) ∧ w' = w)) (w : World) (hg : NamM w) : Calls Tryd.prog 3 #[.int .i64 4, .string s] w fun e w' => e = .returned (.bool true) ∧ Below w.heap.size w w' := by
  have HST := hide (ntSt_start w hg)
  clear hg
  go_enter Tryd.func3, Tryd.ntmps3
  go_wp2_with fail
  refine (HI.out _).mono ?_
  rintro e wl ⟨rfl, hw⟩
  subst wl
  go_upto_region 5 with fail
  refine wp_gen (fun W => NtSt w W) HST.out ?_
  clear HST
  rintro W1 h1
  refine wp_region_grow 12 [(17, .val (.slice (some ⟨w.heap.size, 0, none⟩) 5 5)), (18, .val (.int .i64 4)), (19, .val (.int .i64 3)), (20, .val (.pointer (some ⟨w.heap.size, 3, none⟩))), (21, .val (.string ⟨#[117, 112]⟩)), (22, .val (.slice (some ⟨w.heap.size + 1, 0, none⟩) 5 5)), (23, .val (.int .i64 4)), (24, .val (.int .i64 3)), (25, .val (.pointer (some ⟨w.heap.size + 1, 3, none⟩))), (26, .val (.int .i64 5)), (7, .val (.string ⟨#[117, 112]⟩)), (8, .val (.int .i64 5))]
    (fun W => NtSt w W) mixedOk (by kernel_rfl) (by kernel_rfl) (h1.below (Below.refl _ _).drew) (fun W W' h hb => h.below hb) ?_ ?_
  · refine gSt (gStep_run rfl (gRun_move 5 17 (.inl rfl) rfl (by decide +kernel) (fun v w h => h))) ?_
    refine gSt (gStep_run rfl (gRun_move 0 18 (.inl rfl) rfl (by decide +kernel) (fun v w h => h))) ?_
    refine gSt (gStep_run rfl ?_) ?_
    · intro ρ W hC hc hf hL
      have e18 : ρ (.tmp 18) = .int .i64 4 := hL 18 (by decide +kernel)
      simp [go_sem, hc, hf, e18]
      exact ⟨Below.refl _ _, rfl⟩
    refine gSt (gStep_run rfl ?_) ?_
    · intro ρ W hC hc hf hL
      have e17 : ρ (.tmp 17) = .slice (some ⟨w.heap.size, 0, none⟩) 5 5 := hL 17 (by decide +kernel)
      have e19 : ρ (.tmp 19) = .int .i64 3 := hL 19 (by decide +kernel)
      simp [go_sem, hc, hf, e17, e19]
      exact ⟨Below.refl _ _, rfl⟩
    refine gSt (gStep_run rfl ?_) ?_
    · intro ρ W hC hc hf hL
      have e20 : ρ (.tmp 20) = .pointer (some ⟨w.heap.size, 3, none⟩) := hL 20 (by decide +kernel)
      have hl : W.cell? ⟨w.heap.size, 3, none⟩ = some (.string ⟨#[117, 112]⟩) := hC.c 3 (by decide)
      simp [go_sem, hc, hf, e20, hl]
      exact ⟨Below.refl _ _, rfl⟩
    refine gSt (gStep_run rfl (gRun_move 6 22 (.inl rfl) rfl (by decide +kernel) (fun v w h => h))) ?_
    refine gSt (gStep_run rfl (gRun_move 0 23 (.inl rfl) rfl (by decide +kernel) (fun v w h => h))) ?_
    refine gSt (gStep_run rfl ?_) ?_
    · intro ρ W hC hc hf hL
      have e23 : ρ (.tmp 23) = .int .i64 4 := hL 23 (by decide +kernel)
      simp [go_sem, hc, hf, e23]
      exact ⟨Below.refl _ _, rfl⟩
    refine gSt (gStep_run rfl ?_) ?_
    · intro ρ W hC hc hf hL
      have e22 : ρ (.tmp 22) = .slice (some ⟨w.heap.size + 1, 0, none⟩) 5 5 := hL 22 (by decide +kernel)
      have e24 : ρ (.tmp 24) = .int .i64 3 := hL 24 (by decide +kernel)
      simp [go_sem, hc, hf, e22, e24]
      exact ⟨Below.refl _ _, rfl⟩
    refine gSt (gStep_run rfl ?_) ?_
    · intro ρ W hC hc hf hL
      have e25 : ρ (.tmp 25) = .pointer (some ⟨w.heap.size + 1, 3, none⟩) := hL 25 (by decide +kernel)
      have hl : W.cell? ⟨w.heap.size + 1, 3, none⟩ = some (.int .i64 5) := hC.d 3 (by decide)
      simp [go_sem, hc, hf, e25, hl]
      exact ⟨Below.refl _ _, rfl⟩
    refine gSt (gStep_run rfl (gRun_move 21 7 (.inr rfl) rfl (by decide +kernel) (fun v w h => h))) ?_
    refine gSt (gStep_run rfl (gRun_move 26 8 (.inr rfl) rfl (by decide +kernel) (fun v w h => h))) ?_
    exact gSt0
  · intro W hC
    refine gFi 17 rfl ?_
    rintro _ rfl
    refine gFi 18 rfl ?_
    rintro _ rfl
    refine gFi 19 rfl ?_
    rintro _ rfl
    refine gFi 20 rfl ?_
    rintro _ rfl
    refine gFi 21 rfl ?_
    rintro _ rfl
    refine gFi 22 rfl ?_
    rintro _ rfl
    refine gFi 23 rfl ?_
    rintro _ rfl
    refine gFi 24 rfl ?_
    rintro _ rfl
    refine gFi 25 rfl ?_
    rintro _ rfl
    refine gFi 26 rfl ?_
    rintro _ rfl
    refine gFi 7 rfl ?_
    rintro _ rfl
    refine gFi 8 rfl ?_
    rintro _ rfl
    refine gFi0 ?_
    simp only [List.drop_succ_cons, List.drop_zero, Act.put, List.setIfInBounds_toArray, List.set_cons_succ, List.set_cons_zero]
    have HST := hide hC
    clear hC h1
    go_wp2_with fail
    refine (HBN.out _ HST.out.g).mono ?_
    rintro e wl ⟨rfl, hw⟩
    subst wl
    go_wp2_with fail
    go_loopw [11, 12] (fun v i wr => ∃ k : Nat, k ≤ 5 ∧ v = .int .i64 (wantF b k) ∧ i = .int .i64 k ∧ Hid (NtSt w wr)) (fun v i _ => 5 - (intOf i).toNat)
    case atStart => exact ⟨0, by decide, rfl, rfl, HST⟩
    case round =>
      clear HST
      obtain ⟨k, hk, rfl, rfl, hst⟩ := hrel
      have hk5 : k = 0 ∨ k = 1 ∨ k = 2 ∨ k = 3 ∨ k = 4 ∨ k = 5 := by omega
      rcases hk5 with rfl | rfl | rfl | rfl | rfl | rfl
      · have c : _ = some (Value.string ⟨#[101, 118, 101, 110]⟩) := hst.out.c 0 (by decide)
        have e : ([101, 118, 101, 110] == s.toList) = b 0 := Hb.out 0 (by decide)
        have hlt := hst.out.lt
        have ew : wantF b 1 = if b 0 then (1 : Int) else wantF b 0 := rfl
        generalize wantF b 0 = v at ew ⊢
        cases hb : b 0
        · rw [hb] at e ew
          go_wp2
          go_roundw
          case rel => exact ⟨1, by decide, by rw [ew]; rfl, rfl, hst⟩
          case measure => decide
        · rw [hb] at e ew
          go_wp2
          go_roundw
          case rel => exact ⟨1, by decide, by rw [ew]; rfl, rfl, hst⟩
          case measure => decide
      · have c : _ = some (Value.string ⟨#[97, 119, 97, 121]⟩) := hst.out.c 1 (by decide)
        have e : ([97, 119, 97, 121] == s.toList) = b 1 := Hb.out 1 (by decide)
        have hlt := hst.out.lt
        have ew : wantF b 2 = if b 1 then (2 : Int) else wantF b 1 := rfl
        generalize wantF b 1 = v at ew ⊢
        cases hb : b 1
        · rw [hb] at e ew
          go_wp2
          go_roundw
          case rel => exact ⟨2, by decide, by rw [ew]; rfl, rfl, hst⟩
          case measure => decide
        · rw [hb] at e ew
          go_wp2
          go_roundw
          case rel => exact ⟨2, by decide, by rw [ew]; rfl, rfl, hst⟩
          case measure => decide
      · have c : _ = some (Value.string ⟨#[122, 101, 114, 111]⟩) := hst.out.c 2 (by decide)
        have e : ([122, 101, 114, 111] == s.toList) = b 2 := Hb.out 2 (by decide)
        have hlt := hst.out.lt
        have ew : wantF b 3 = if b 2 then (3 : Int) else wantF b 2 := rfl
        generalize wantF b 2 = v at ew ⊢
        cases hb : b 2
        · rw [hb] at e ew
          go_wp2
          go_roundw
          case rel => exact ⟨3, by decide, by rw [ew]; rfl, rfl, hst⟩
          case measure => decide
        · rw [hb] at e ew
          go_wp2
          go_roundw
          case rel => exact ⟨3, by decide, by rw [ew]; rfl, rfl, hst⟩
          case measure => decide
      · have c : _ = some (Value.string ⟨#[117, 112]⟩) := hst.out.c 3 (by decide)
        have e : ([117, 112] == s.toList) = b 3 := Hb.out 3 (by decide)
        have hlt := hst.out.lt
        have ew : wantF b 4 = if b 3 then (4 : Int) else wantF b 3 := rfl
        generalize wantF b 3 = v at ew ⊢
        cases hb : b 3
        · rw [hb] at e ew
          go_wp2
          go_roundw
          case rel => exact ⟨4, by decide, by rw [ew]; rfl, rfl, hst⟩
          case measure => decide
        · rw [hb] at e ew
          go_wp2
          go_roundw
          case rel => exact ⟨4, by decide, by rw [ew]; rfl, rfl, hst⟩
          case measure => decide
      · have c : _ = some (Value.string ⟨#[100, 111, 119, 110]⟩) := hst.out.c 4 (by decide)
        have e : ([100, 111, 119, 110] == s.toList) = b 4 := Hb.out 4 (by decide)
        have hlt := hst.out.lt
        have ew : wantF b 5 = if b 4 then (5 : Int) else wantF b 4 := rfl
        generalize wantF b 4 = v at ew ⊢
        cases hb : b 4
        · rw [hb] at e ew
          go_wp2
          go_roundw
          case rel => exact ⟨5, by decide, by rw [ew]; rfl, rfl, hst⟩
          case measure => decide
        · rw [hb] at e ew
          go_wp2
          go_roundw
          case rel => exact ⟨5, by decide, by rw [ew]; rfl, rfl, hst⟩
          case measure => decide
      · have hw := Hw.out
        have hok := Hok.out
        rw [hw]
        clear Hw Hok hw
        go_wp2_with fail
        refine (HJ.out _).mono ?_
        rintro e wl ⟨rfl, hw⟩
        subst wl
        go_wp2_with fail
        refine (HI.out _).mono ?_
        rintro e wl ⟨rfl, hw⟩
        subst wl
        go_wp2_with fail
        refine (HNA.out _ hst.out.g).mono ?_
        rintro e wl ⟨rfl, hw⟩
        subst wl
        go_wp2_with fail
        refine (HMI.out _).mono ?_
        rintro e wl ⟨rfl, hw⟩
        subst wl
        go_wp2_with fail
        refine (awake8_any _).mono ?_
        rintro e w8 ⟨rfl, hb8⟩
        have HB := hide (below_trans hst.out.bel hb8)
        clear hb8 hst
        go_wp2
        go_ret
        exact ⟨rfl, HB.out⟩

set_option maxHeartbeats 2000000 in
theorem modeNames_5 (m : Int) (s : ByteArray) (b : Nat → Bool) (want : Int) (ok : Bool) (Hw : Hid (wantF b 5 = want)) (Hok : Hid (decide (0 < want) = ok))
    (Hb : Hid (∀ k, k < 5 → (mnmL.getD k [] == s.toList) = b k))
    (HI : Hid (∀ w, Calls Tryd.prog 4 #[.int .i64 5] w fun e w' => e = .returned (.bool true) ∧ w' = w))
    (HJ : Hid (∀ w, Calls Tryd.prog 6 #[.int .i64 5] w fun e w' => e = .returned (.bool true) ∧ w' = w))
    (HNA : Hid (∀ w, NamM w → Calls Tryd.prog 7 #[.int .i64 5] w fun e w' => e = .returned (.string ⟨#[100, 111, 119, 110]⟩) ∧ w' = w))
    (HMI : Hid (∀ w, Calls Tryd.prog 8 #[.int .i64 5] w fun e w' => e = .returned (.int .i64 4) ∧ w' = w))
    (HBN : Hid (∀ w, NamM w → Calls Tryd.prog 5 #[.string s] w fun e w' => e = .returned (.tuple #[.int .i64 want, .bool ok]) ∧ w' = w)) (w : World) (hg : NamM w) : Calls Tryd.prog 3 #[.int .i64 5, .string s] w fun e w' => e = .returned (.bool true) ∧ Below w.heap.size w w' := by
  have HST := hide (ntSt_start w hg)
  clear hg
  go_enter Tryd.func3, Tryd.ntmps3
  go_wp2_with fail
  refine (HI.out _).mono ?_
  rintro e wl ⟨rfl, hw⟩
  subst wl
  go_upto_region 5 with fail
  refine wp_gen (fun W => NtSt w W) HST.out ?_
  clear HST
  rintro W1 h1
  refine wp_region_grow 12 [(17, .val (.slice (some ⟨w.heap.size, 0, none⟩) 5 5)), (18, .val (.int .i64 5)), (19, .val (.int .i64 4)), (20, .val (.pointer (some ⟨w.heap.size, 4, none⟩))), (21, .val (.string ⟨#[100, 111, 119, 110]⟩)), (22, .val (.slice (some ⟨w.heap.size + 1, 0, none⟩) 5 5)), (23, .val (.int .i64 5)), (24, .val (.int .i64 4)), (25, .val (.pointer (some ⟨w.heap.size + 1, 4, none⟩))), (26, .val (.int .i64 4)), (7, .val (.string ⟨#[100, 111, 119, 110]⟩)), (8, .val (.int .i64 4))]
    (fun W => NtSt w W) mixedOk (by kernel_rfl) (by kernel_rfl) (h1.below (Below.refl _ _).drew) (fun W W' h hb => h.below hb) ?_ ?_
  · refine gSt (gStep_run rfl (gRun_move 5 17 (.inl rfl) rfl (by decide +kernel) (fun v w h => h))) ?_
    refine gSt (gStep_run rfl (gRun_move 0 18 (.inl rfl) rfl (by decide +kernel) (fun v w h => h))) ?_
    refine gSt (gStep_run rfl ?_) ?_
    · intro ρ W hC hc hf hL
      have e18 : ρ (.tmp 18) = .int .i64 5 := hL 18 (by decide +kernel)
      simp [go_sem, hc, hf, e18]
      exact ⟨Below.refl _ _, rfl⟩
    refine gSt (gStep_run rfl ?_) ?_
    · intro ρ W hC hc hf hL
      have e17 : ρ (.tmp 17) = .slice (some ⟨w.heap.size, 0, none⟩) 5 5 := hL 17 (by decide +kernel)
      have e19 : ρ (.tmp 19) = .int .i64 4 := hL 19 (by decide +kernel)
      simp [go_sem, hc, hf, e17, e19]
      exact ⟨Below.refl _ _, rfl⟩
    refine gSt (gStep_run rfl ?_) ?_
    · intro ρ W hC hc hf hL
      have e20 : ρ (.tmp 20) = .pointer (some ⟨w.heap.size, 4, none⟩) := hL 20 (by decide +kernel)
      have hl : W.cell? ⟨w.heap.size, 4, none⟩ = some (.string ⟨#[100, 111, 119, 110]⟩) := hC.c 4 (by decide)
      simp [go_sem, hc, hf, e20, hl]
      exact ⟨Below.refl _ _, rfl⟩
    refine gSt (gStep_run rfl (gRun_move 6 22 (.inl rfl) rfl (by decide +kernel) (fun v w h => h))) ?_
    refine gSt (gStep_run rfl (gRun_move 0 23 (.inl rfl) rfl (by decide +kernel) (fun v w h => h))) ?_
    refine gSt (gStep_run rfl ?_) ?_
    · intro ρ W hC hc hf hL
      have e23 : ρ (.tmp 23) = .int .i64 5 := hL 23 (by decide +kernel)
      simp [go_sem, hc, hf, e23]
      exact ⟨Below.refl _ _, rfl⟩
    refine gSt (gStep_run rfl ?_) ?_
    · intro ρ W hC hc hf hL
      have e22 : ρ (.tmp 22) = .slice (some ⟨w.heap.size + 1, 0, none⟩) 5 5 := hL 22 (by decide +kernel)
      have e24 : ρ (.tmp 24) = .int .i64 4 := hL 24 (by decide +kernel)
      simp [go_sem, hc, hf, e22, e24]
      exact ⟨Below.refl _ _, rfl⟩
    refine gSt (gStep_run rfl ?_) ?_
    · intro ρ W hC hc hf hL
      have e25 : ρ (.tmp 25) = .pointer (some ⟨w.heap.size + 1, 4, none⟩) := hL 25 (by decide +kernel)
      have hl : W.cell? ⟨w.heap.size + 1, 4, none⟩ = some (.int .i64 4) := hC.d 4 (by decide)
      simp [go_sem, hc, hf, e25, hl]
      exact ⟨Below.refl _ _, rfl⟩
    refine gSt (gStep_run rfl (gRun_move 21 7 (.inr rfl) rfl (by decide +kernel) (fun v w h => h))) ?_
    refine gSt (gStep_run rfl (gRun_move 26 8 (.inr rfl) rfl (by decide +kernel) (fun v w h => h))) ?_
    exact gSt0
  · intro W hC
    refine gFi 17 rfl ?_
    rintro _ rfl
    refine gFi 18 rfl ?_
    rintro _ rfl
    refine gFi 19 rfl ?_
    rintro _ rfl
    refine gFi 20 rfl ?_
    rintro _ rfl
    refine gFi 21 rfl ?_
    rintro _ rfl
    refine gFi 22 rfl ?_
    rintro _ rfl
    refine gFi 23 rfl ?_
    rintro _ rfl
    refine gFi 24 rfl ?_
    rintro _ rfl
    refine gFi 25 rfl ?_
    rintro _ rfl
    refine gFi 26 rfl ?_
    rintro _ rfl
    refine gFi 7 rfl ?_
    rintro _ rfl
    refine gFi 8 rfl ?_
    rintro _ rfl
    refine gFi0 ?_
    simp only [List.drop_succ_cons, List.drop_zero, Act.put, List.setIfInBounds_toArray, List.set_cons_succ, List.set_cons_zero]
    have HST := hide hC
    clear hC h1
    go_wp2_with fail
    refine (HBN.out _ HST.out.g).mono ?_
    rintro e wl ⟨rfl, hw⟩
    subst wl
    go_wp2_with fail
    go_loopw [11, 12] (fun v i wr => ∃ k : Nat, k ≤ 5 ∧ v = .int .i64 (wantF b k) ∧ i = .int .i64 k ∧ Hid (NtSt w wr)) (fun v i _ => 5 - (intOf i).toNat)
    case atStart => exact ⟨0, by decide, rfl, rfl, HST⟩
    case round =>
      clear HST
      obtain ⟨k, hk, rfl, rfl, hst⟩ := hrel
      have hk5 : k = 0 ∨ k = 1 ∨ k = 2 ∨ k = 3 ∨ k = 4 ∨ k = 5 := by omega
      rcases hk5 with rfl | rfl | rfl | rfl | rfl | rfl
      · have c : _ = some (Value.string ⟨#[101, 118, 101, 110]⟩) := hst.out.c 0 (by decide)
        have e : ([101, 118, 101, 110] == s.toList) = b 0 := Hb.out 0 (by decide)
        have hlt := hst.out.lt
        have ew : wantF b 1 = if b 0 then (1 : Int) else wantF b 0 := rfl
        generalize wantF b 0 = v at ew ⊢
        cases hb : b 0
        · rw [hb] at e ew
          go_wp2
          go_roundw
          case rel => exact ⟨1, by decide, by rw [ew]; rfl, rfl, hst⟩
          case measure => decide
        · rw [hb] at e ew
          go_wp2
          go_roundw
          case rel => exact ⟨1, by decide, by rw [ew]; rfl, rfl, hst⟩
          case measure => decide
      · have c : _ = some (Value.string ⟨#[97, 119, 97, 121]⟩) := hst.out.c 1 (by decide)
        have e : ([97, 119, 97, 121] == s.toList) = b 1 := Hb.out 1 (by decide)
        have hlt := hst.out.lt
        have ew : wantF b 2 = if b 1 then (2 : Int) else wantF b 1 := rfl
        generalize wantF b 1 = v at ew ⊢
        cases hb : b 1
        · rw [hb] at e ew
          go_wp2
          go_roundw
          case rel => exact ⟨2, by decide, by rw [ew]; rfl, rfl, hst⟩
          case measure => decide
        · rw [hb] at e ew
          go_wp2
          go_roundw
          case rel => exact ⟨2, by decide, by rw [ew]; rfl, rfl, hst⟩
          case measure => decide
      · have c : _ = some (Value.string ⟨#[122, 101, 114, 111]⟩) := hst.out.c 2 (by decide)
        have e : ([122, 101, 114, 111] == s.toList) = b 2 := Hb.out 2 (by decide)
        have hlt := hst.out.lt
        have ew : wantF b 3 = if b 2 then (3 : Int) else wantF b 2 := rfl
        generalize wantF b 2 = v at ew ⊢
        cases hb : b 2
        · rw [hb] at e ew
          go_wp2
          go_roundw
          case rel => exact ⟨3, by decide, by rw [ew]; rfl, rfl, hst⟩
          case measure => decide
        · rw [hb] at e ew
          go_wp2
          go_roundw
          case rel => exact ⟨3, by decide, by rw [ew]; rfl, rfl, hst⟩
          case measure => decide
      · have c : _ = some (Value.string ⟨#[117, 112]⟩) := hst.out.c 3 (by decide)
        have e : ([117, 112] == s.toList) = b 3 := Hb.out 3 (by decide)
        have hlt := hst.out.lt
        have ew : wantF b 4 = if b 3 then (4 : Int) else wantF b 3 := rfl
        generalize wantF b 3 = v at ew ⊢
        cases hb : b 3
        · rw [hb] at e ew
          go_wp2
          go_roundw
          case rel => exact ⟨4, by decide, by rw [ew]; rfl, rfl, hst⟩
          case measure => decide
        · rw [hb] at e ew
          go_wp2
          go_roundw
          case rel => exact ⟨4, by decide, by rw [ew]; rfl, rfl, hst⟩
          case measure => decide
      · have c : _ = some (Value.string ⟨#[100, 111, 119, 110]⟩) := hst.out.c 4 (by decide)
        have e : ([100, 111, 119, 110] == s.toList) = b 4 := Hb.out 4 (by decide)
        have hlt := hst.out.lt
        have ew : wantF b 5 = if b 4 then (5 : Int) else wantF b 4 := rfl
        generalize wantF b 4 = v at ew ⊢
        cases hb : b 4
        · rw [hb] at e ew
          go_wp2
          go_roundw
          case rel => exact ⟨5, by decide, by rw [ew]; rfl, rfl, hst⟩
          case measure => decide
        · rw [hb] at e ew
          go_wp2
          go_roundw
          case rel => exact ⟨5, by decide, by rw [ew]; rfl, rfl, hst⟩
          case measure => decide
      · have hw := Hw.out
        have hok := Hok.out
        rw [hw]
        clear Hw Hok hw
        go_wp2_with fail
        refine (HJ.out _).mono ?_
        rintro e wl ⟨rfl, hw⟩
        subst wl
        go_wp2_with fail
        refine (HI.out _).mono ?_
        rintro e wl ⟨rfl, hw⟩
        subst wl
        go_wp2_with fail
        refine (HNA.out _ hst.out.g).mono ?_
        rintro e wl ⟨rfl, hw⟩
        subst wl
        go_wp2_with fail
        refine (HMI.out _).mono ?_
        rintro e wl ⟨rfl, hw⟩
        subst wl
        go_wp2_with fail
        refine (awake8_any _).mono ?_
        rintro e w8 ⟨rfl, hb8⟩
        have HB := hide (below_trans hst.out.bel hb8)
        clear hb8 hst
        go_wp2
        go_ret
        exact ⟨rfl, HB.out⟩

theorem modeNames_all (m : Int) (s : ByteArray) (w : World) (hg : NamM w) : Calls Tryd.prog 3 #[.int .i64 m, .string s] w fun e w' => e = .returned (.bool true) ∧ Below w.heap.size w w' := by
  obtain ⟨b, hb⟩ : ∃ b : Nat → Bool, ∀ k, (mnmL.getD k [] == s.toList) = b k := ⟨_, fun _ => rfl⟩
  obtain ⟨want, ok, hw, hok, HBN⟩ : ∃ want ok, wantF b 5 = want ∧ decide (0 < want) = ok ∧ ∀ w, NamM w → Calls Tryd.prog 5 #[.string s] w fun e w' => e = .returned (.tuple #[.int .i64 want, .bool ok]) ∧ w' = w := by
    by_cases h1 : s.toList = [101, 118, 101, 110]
    · have e : ∀ l : List UInt8, (l == s.toList) = (l == [101, 118, 101, 110]) := fun l => by rw [h1]
      have f : ∀ k, b k = (mnmL.getD k [] == [101, 118, 101, 110]) := fun k => by rw [← hb, e]
      refine ⟨1, true, ?_, rfl, fun w hg => mbyName_1 s (by rw [e]; decide) w hg⟩
      simp only [wantF, f]
      rfl
    by_cases h2 : s.toList = [97, 119, 97, 121]
    · have e : ∀ l : List UInt8, (l == s.toList) = (l == [97, 119, 97, 121]) := fun l => by rw [h2]
      have f : ∀ k, b k = (mnmL.getD k [] == [97, 119, 97, 121]) := fun k => by rw [← hb, e]
      refine ⟨2, true, ?_, rfl, fun w hg => mbyName_2 s (by rw [e]; decide) (by rw [e]; decide) w hg⟩
      simp only [wantF, f]
      rfl
    by_cases h3 : s.toList = [122, 101, 114, 111]
    · have e : ∀ l : List UInt8, (l == s.toList) = (l == [122, 101, 114, 111]) := fun l => by rw [h3]
      have f : ∀ k, b k = (mnmL.getD k [] == [122, 101, 114, 111]) := fun k => by rw [← hb, e]
      refine ⟨3, true, ?_, rfl, fun w hg => mbyName_3 s (by rw [e]; decide) (by rw [e]; decide) (by rw [e]; decide) w hg⟩
      simp only [wantF, f]
      rfl
    by_cases h4 : s.toList = [117, 112]
    · have e : ∀ l : List UInt8, (l == s.toList) = (l == [117, 112]) := fun l => by rw [h4]
      have f : ∀ k, b k = (mnmL.getD k [] == [117, 112]) := fun k => by rw [← hb, e]
      refine ⟨4, true, ?_, rfl, fun w hg => mbyName_4 s (by rw [e]; decide) (by rw [e]; decide) (by rw [e]; decide) (by rw [e]; decide) w hg⟩
      simp only [wantF, f]
      rfl
    by_cases h5 : s.toList = [100, 111, 119, 110]
    · have e : ∀ l : List UInt8, (l == s.toList) = (l == [100, 111, 119, 110]) := fun l => by rw [h5]
      have f : ∀ k, b k = (mnmL.getD k [] == [100, 111, 119, 110]) := fun k => by rw [← hb, e]
      refine ⟨5, true, ?_, rfl, fun w hg => mbyName_5 s (by rw [e]; decide) (by rw [e]; decide) (by rw [e]; decide) (by rw [e]; decide) (by rw [e]; decide) w hg⟩
      simp only [wantF, f]
      rfl
    have e : ∀ l : List UInt8, s.toList ≠ l → (l == s.toList) = false := fun l h => by rw [beq_eq_false_iff_ne]; exact fun h2 => h h2.symm
    have f : ∀ k, k < 5 → b k = false := fun k hk => by
      rw [← hb]
      match k, hk with
      | 0, _ => exact e _ h1
      | 1, _ => exact e _ h2
      | 2, _ => exact e _ h3
      | 3, _ => exact e _ h4
      | 4, _ => exact e _ h5
    refine ⟨0, false, ?_, rfl, fun w hg => mbyName_6 s (e _ h1) (e _ h2) (e _ h3) (e _ h4) (e _ h5) w hg⟩
    simp only [wantF, f 0 (by decide), f 1 (by decide), f 2 (by decide), f 3 (by decide), f 4 (by decide)]
    rfl
  by_cases hm : isM m = true
  · have h5 : m = 1 ∨ m = 2 ∨ m = 3 ∨ m = 4 ∨ m = 5 := by
      unfold isM at hm
      rw [Bool.and_eq_true, decide_eq_true_iff, decide_eq_true_iff] at hm
      omega
    rcases h5 with rfl | rfl | rfl | rfl | rfl
    · exact modeNames_1 1 s b want ok hw hok (fun k _ => hb k) (fun w => refIs8_any 1 w) (fun w => modeIs_any 1 w) (fun w hg => mname_1 w hg) (fun w => mirror_any 1 rfl w) HBN w hg
    · exact modeNames_2 2 s b want ok hw hok (fun k _ => hb k) (fun w => refIs8_any 2 w) (fun w => modeIs_any 2 w) (fun w hg => mname_2 w hg) (fun w => mirror_any 2 rfl w) HBN w hg
    · exact modeNames_3 3 s b want ok hw hok (fun k _ => hb k) (fun w => refIs8_any 3 w) (fun w => modeIs_any 3 w) (fun w hg => mname_3 w hg) (fun w => mirror_any 3 rfl w) HBN w hg
    · exact modeNames_4 4 s b want ok hw hok (fun k _ => hb k) (fun w => refIs8_any 4 w) (fun w => modeIs_any 4 w) (fun w hg => mname_4 w hg) (fun w => mirror_any 4 rfl w) HBN w hg
    · exact modeNames_5 5 s b want ok hw hok (fun k _ => hb k) (fun w => refIs8_any 5 w) (fun w => modeIs_any 5 w) (fun w hg => mname_5 w hg) (fun w => mirror_any 5 rfl w) HBN w hg
  · have hm2 : isM m = false := by simpa using hm
    have h1 := fun w => refIs8_any m w
    have h2 := fun w => modeIs_any m w
    rw [hm2] at h1 h2
    exact modeNames_0 m s b want ok hw hok (fun k _ => hb k) h1 h2 (fun w _ => mname_none m hm2 w) (fun w => mirror_no m hm2 w) HBN w hg

end Go.Proofs.YtidfegilddlglabDoor

/- ModeNames: for every m and text the law returns true. Conditions: those of the tied card (the table of names is laid as the program lays it). -/
namespace Go.Proofs.YtidfegilddlglabDoor.modeNames
open Go.ChangeShapes Go.WideShapes Go.ChangeAt Go.RowKit Go.Proofs.YtidfegilddlglabDoor

theorem own : ownKnob Tryd.prog.godebug = none := by kernel_rfl
theorem laidOut : laidOutB Tryd.prog = true := by kernel_rfl

theorem door_met (os : Os) (args : Array Value) : laidMetH Tryd.prog [("radicand/mode.names", Rows.laid_radicand_mode_names)] ((World.doorLaid Tryd.prog 400 os).forCall (fun _ _ => 0) ⟨#[], args, []⟩).memory :=
  laidMetH_of_parts3 (fuel := 8) (laidMet_of_run' 8 (by kernel_rfl) (by kernel_rfl)) (by kernel_rfl) (by kernel_rfl)

set_option maxRecDepth 100000 in
theorem lifted (os : Os) (started : os.Started) (H : Type) (enc : TypeId × Value → H) :
    ReturnsInHanded {} Tryd.checked os 3 .any (fun w args => (Rows.modeNamesSpec.pre enc Tryd.prog Tryd.f3 [] false w args ∧ laidMetH Tryd.prog [("radicand/mode.names", Rows.laid_radicand_mode_names)] w) ∧ sizedMet enc Tryd.prog Tryd.f3 (OpenSpec.ofChange Rows.modeNamesSpec) false w args) (Rows.modeNamesSpec.post enc Tryd.prog Tryd.f3 false true false false) := by
  refine returnsInHanded_of_change_and (C := Tryd.checked) (X := fun w _ => laidMetH Tryd.prog [("radicand/mode.names", Rows.laid_radicand_mode_names)] w) (fun _ _ _ hh h => h.of_heap hh) own started (by kernel_rfl) Tryd.func3
    (ChangeSpec.witness_shaped (enc := enc) (C := Tryd.checked) (os := os) (X := fun w _ => laidMetH Tryd.prog [("radicand/mode.names", Rows.laid_radicand_mode_names)] w) false (World.doorLaid Tryd.prog 400 os) #[.int .i64 0, .string ⟨#[]⟩] 8 rfl (World.shaped_of_RefB (by kernel_rfl) (by kernel_rfl)) (by kernel_rfl) (by kernel_rfl) (by kernel_rfl) (door_met os _)) ?_
  intro W base args ds gs before hval0 hW _ _ hL _
  have hval : ∀ (j : Nat) t v, Tryd.f3.params[j]? = some t → args[j]? = some v → Value.okWide Tryd.prog W .any base t v := hval0
  have hW' := hW
  obtain ⟨p, q, hA0, hV, rfl, hfz, hnd⟩ := hW
  have hA : DataW.TrodAll enc Tryd.prog W 0 (fun _ => true) true Tryd.f3.params.toList args.toList ds p := hA0
  rw [Tryd.params3] at hA hval
  obtain ⟨v0, vs0, d0, ds0, p0, q0, hargs, rfl, rfl, h0, r0⟩ := trodAll_cons hA
  obtain ⟨v1, vs1, d1, ds1, p1, q1, rfl, rfl, rfl, h1, r1⟩ := trodAll_cons r0
  obtain ⟨rfl, rfl, rfl⟩ := trodAll_nil r1
  obtain rfl : args = #[v0, v1] := by cases args; simp_all
  obtain ⟨rfl, rfl⟩ := trodVars_none hV
  have k0 := h0
  have lt0 : ∀ x ∈ p0, x.block < W.heap.size := by obtain ⟨m, hm⟩ := k0; exact DataW.trod_lt m _ _ _ hm
  have k1 := h1
  have lt1 : ∀ x ∈ p1, x.block < W.heap.size := by obtain ⟨m, hm⟩ := k1; exact DataW.trod_lt m _ _ _ hm
  obtain ⟨a0, rfl, rfl, rfl, wf0⟩ := open_int Tryd.underlying3 (hval 0 3 v0 rfl rfl) h0
  obtain ⟨s1, rfl, rfl, rfl, hm1⟩ := Go.ChangeMaps.open_string Tryd.underlying9 (hval 1 9 v1 rfl rfl) h1
  clear hA0 hval0
  have hg := of_laidM hL
  refine (modeNames_all a0 s1 W hg).mono fun e W' ⟨he, bel⟩ => ?_
  subst he
  exact ⟨_, rfl, _, _, _, [], _, [], hW', trodAll_mk1 (shut_bool Tryd.underlying4 _), (trodAll_cons_mk (Below.trod laidOut (by kernel_rfl) (of_decide_eq_true (by kernel_rfl)) k0 bel lt0) (trodAll_cons_mk (Below.trod laidOut (by kernel_rfl) (of_decide_eq_true (by kernel_rfl)) k1 bel lt1) trodAll_mk0)), rfl, bel.frame _, fun h => by cases h⟩

theorem over : Rows.modeNamesRow.holds Tryd.pinned (OpenSpec.ofChange Rows.modeNamesSpec) :=
  OpenClaim.holds_of_wide 3 Tryd.f3 rfl rfl rfl rfl rfl rfl rfl ⟨rfl, rfl, rfl, rfl, rfl⟩ rfl rfl rfl rfl rfl (by kernel_rfl) Tryd.func3 (by kernel_rfl)
    (of_decide_eq_true (by kernel_rfl)) (by unfold Func.isWrapper; first | (rw [if_pos (by decide +kernel)]; kernel_rfl) | (rw [if_neg (by decide +kernel)]; exact ⟨rfl, rfl⟩))
    (fun os started H enc _ => lifted os started H enc)

theorem proved : Rows.ModeNamesCardSaid :=
  Claim7.holds_tied_plain_at .later [] [.data] true (true, "24c62ebd9818f70a8b3f3882ae08c2ad8eaa47f889985e0e972ec9a8c5549104") false
    over (fun _ h => by cases h) (by kernel_rfl) (fun _ h => by cases h) modeNames_row_tie rfl ⟨rfl, rfl⟩ (by kernel_rfl) rfl
    (fun f fn hf hfn => by
      obtain rfl : f = 3 := Option.some.inj ((show Tryd.prog.funcNamed "radicand/radicandlaw08.ModeNames" = some 3 by kernel_rfl).symm.trans hf) |>.symm
      obtain rfl : fn = Tryd.f3 := (Option.some.inj (Tryd.func3.symm.trans hfn)).symm
      exact ⟨by kernel_rfl, fun j t ht => by
        rw [Tryd.params3] at ht
        rcases j with _ | j
        · obtain rfl : t = 3 := by simpa using ht.symm
          exact (show Tryd.prog.wantsStandIn 3 = false by kernel_rfl)
        rcases j with _ | j
        · obtain rfl : t = 9 := by simpa using ht.symm
          exact (show Tryd.prog.wantsStandIn 9 = false by kernel_rfl)
        simp at ht⟩)
    (by kernel_rfl)
#print axioms proved
end Go.Proofs.YtidfegilddlglabDoor.modeNames

