/- For all places, wides and counts the law radicandlaw17.RomOnce returns true and leaves what came in as it was. No condition. -/
import Derived.Test.YteocibahclpegaaPartAR
import Derived.Test.YteocibahclpegaaRows
import Derived.Test.YteocibahclpegaaPartAQ
import Derived.WalkKit
import Derived.ProofKit
import Derived.OpenShut
import Derived.ShutString
import Derived.ChangeOld
import Derived.Below
/- For all ints, wides and counts the law radicandlaw17.RomOnce returns true. -/
set_option linter.unusedVariables false
set_option linter.unusedSimpArgs false
set_option maxRecDepth 8000
namespace Go.Proofs.Yteocibahclpegaa
open Go.RowKit Plain

/-- What the rounds go by: a rom, asked already or not; the number in its box. -/
structure OnSt17 (b a : Nat) (d : Bool) (w w1 W : World) : Prop where
  r : RomD b d w1 W
  l : LiesF W w.heap.size (dgl a)
  bel : Below w.heap.size w W
  ge : w.heap.size < b
theorem OnSt17.step {b a : Nat} {d : Bool} {w w1 W : World} (h : OnSt17 b a d w w1 W) : RomD b d W W := RomG.again h.r
theorem OnSt17.next {b a : Nat} {d : Bool} {w w1 W W' : World} (h : OnSt17 b a d w w1 W) (hr : RomD b true W W') : OnSt17 b a true w W W' :=
  ⟨hr, hr.on.lies h.l (by have := h.ge; omega) (by have := h.ge; omega), hr.on.under h.bel (by have := h.ge; omega) (by have := h.ge; omega) (Nat.le_refl _), h.ge⟩

set_option maxHeartbeats 4000000 in
theorem romOnce_walk (i : Int) (a t : Nat) (ht : t < 256) (w : World)
    (HN : Hid (∀ w, Calls Try.prog 9 #[] w fun e w' => ∃ b, e = .returned (.pointer (some ⟨b, 0, none⟩)) ∧ RomD b false w' w' ∧ Below w.heap.size w w' ∧ w.heap.size ≤ b))
    (HR0 : Hid (∀ w, Calls Try.prog 10 #[.pointer none, .int .i64 i] w fun e w' => e = .returned (.tuple #[.int .u64 0, .bool false]) ∧ w' = w))
    (HT0 : Hid (∀ w, Calls Try.prog 11 #[.pointer none, .int .i64 i] w fun e w' => e = .returned (.tuple #[.int .u64 0, .bool false]) ∧ w' = w))
    (HG0 : Hid (∀ w, Calls Try.prog 15 #[.pointer none, .agg #[.int .u64 (dgl (a) 0 : Nat), .int .u64 (dgl (a) 1 : Nat), .int .u64 (dgl (a) 2 : Nat), .int .u64 (dgl (a) 3 : Nat), .int .u64 (dgl (a) 4 : Nat), .int .u64 (dgl (a) 5 : Nat), .int .u64 (dgl (a) 6 : Nat), .int .u64 (dgl (a) 7 : Nat)]] w fun e w' => e = .returned (.tuple #[.int .u64 0, .bool false]) ∧ Below w.heap.size w w'))
    (HK0 : Hid (∀ w, Calls Try.prog 16 #[.pointer none, .agg #[.int .u64 (dgl (a) 0 : Nat), .int .u64 (dgl (a) 1 : Nat), .int .u64 (dgl (a) 2 : Nat), .int .u64 (dgl (a) 3 : Nat), .int .u64 (dgl (a) 4 : Nat), .int .u64 (dgl (a) 5 : Nat), .int .u64 (dgl (a) 6 : Nat), .int .u64 (dgl (a) 7 : Nat)]] w fun e w' => e = .returned (.tuple #[.int .u64 0, .bool false]) ∧ Below w.heap.size w w'))
    (HM0 : Hid (∀ w, Calls Try.prog 22 #[.pointer none] w fun e w' => e = .returned (.int .i64 0) ∧ w' = w))
    (HR : Hid (∀ b d w W, RomD b d w W → Calls Try.prog 10 #[.pointer (some ⟨b, 0, none⟩), .int .i64 i] W fun e w' => ∃ v, e = .returned v ∧ RomD b true w w'))
    (HT : Hid (∀ b d w W, RomD b d w W → Calls Try.prog 11 #[.pointer (some ⟨b, 0, none⟩), .int .i64 i] W fun e w' => ∃ v, e = .returned v ∧ RomD b true w w'))
    (HG : Hid (∀ b d w W, RomD b d w W → Calls Try.prog 15 #[.pointer (some ⟨b, 0, none⟩), .agg #[.int .u64 (dgl (a) 0 : Nat), .int .u64 (dgl (a) 1 : Nat), .int .u64 (dgl (a) 2 : Nat), .int .u64 (dgl (a) 3 : Nat), .int .u64 (dgl (a) 4 : Nat), .int .u64 (dgl (a) 5 : Nat), .int .u64 (dgl (a) 6 : Nat), .int .u64 (dgl (a) 7 : Nat)]] W fun e w' => ∃ v, e = .returned v ∧ RomD b true w w'))
    (HK : Hid (∀ b d w W, RomD b d w W → Calls Try.prog 16 #[.pointer (some ⟨b, 0, none⟩), .agg #[.int .u64 (dgl (a) 0 : Nat), .int .u64 (dgl (a) 1 : Nat), .int .u64 (dgl (a) 2 : Nat), .int .u64 (dgl (a) 3 : Nat), .int .u64 (dgl (a) 4 : Nat), .int .u64 (dgl (a) 5 : Nat), .int .u64 (dgl (a) 6 : Nat), .int .u64 (dgl (a) 7 : Nat)]] W fun e w' => ∃ v, e = .returned v ∧ RomD b true w w'))
    (HM : Hid (∀ b d w W, RomD b d w W → Calls Try.prog 22 #[.pointer (some ⟨b, 0, none⟩)] W fun e w' => e = .returned (.int .i64 (bif d then 1 else 0)) ∧ w' = W))
    (HAW : Hid (∀ w, Calls Try.prog 14 #[] w fun e w' => e = .returned (.bool true) ∧ Below w.heap.size w w')) :
    Calls Try.prog 5 #[.int .i64 i, .agg #[.int .u64 (dgl (a) 0 : Nat), .int .u64 (dgl (a) 1 : Nat), .int .u64 (dgl (a) 2 : Nat), .int .u64 (dgl (a) 3 : Nat), .int .u64 (dgl (a) 4 : Nat), .int .u64 (dgl (a) 5 : Nat), .int .u64 (dgl (a) 6 : Nat), .int .u64 (dgl (a) 7 : Nat)], .int .u8 (t : Nat)] w fun e w' => e = .returned (.bool true) ∧ Below w.heap.size w w' := by
  have HS := hide (show LiesF (w.alloc (.cells #[.int .u64 (dgl (a) 0 : Nat), .int .u64 (dgl (a) 1 : Nat), .int .u64 (dgl (a) 2 : Nat), .int .u64 (dgl (a) 3 : Nat), .int .u64 (dgl (a) 4 : Nat), .int .u64 (dgl (a) 5 : Nat), .int .u64 (dgl (a) 6 : Nat), .int .u64 (dgl (a) 7 : Nat)] 32)) w.heap.size (dgl a) ∧ Below w.heap.size w (w.alloc (.cells #[.int .u64 (dgl (a) 0 : Nat), .int .u64 (dgl (a) 1 : Nat), .int .u64 (dgl (a) 2 : Nat), .int .u64 (dgl (a) 3 : Nat), .int .u64 (dgl (a) 4 : Nat), .int .u64 (dgl (a) 5 : Nat), .int .u64 (dgl (a) 6 : Nat), .int .u64 (dgl (a) 7 : Nat)] 32)) from ⟨liesF_new w (dgl a) _, below_allocs _ _⟩)
  go_enter Try.func5, Try.ntmps5
  go_wp2_with fail
  refine (HR0.out _).mono ?_
  rintro e w1 ⟨rfl, rfl⟩
  clear HR0
  go_wp2_with fail
  refine (HT0.out _).mono ?_
  rintro e w1 ⟨rfl, rfl⟩
  clear HT0
  have hl := HS.out.1.1
  go_wp2_with fail
  refine (HG0.out _).mono ?_
  rintro e w2 ⟨rfl, hb2⟩
  replace HS := hide (show LiesF w2 w.heap.size (dgl a) ∧ Below w.heap.size w w2 from ⟨HS.out.1.below hb2, below_trans HS.out.2 hb2⟩)
  clear hb2 HG0 hl
  have hl := HS.out.1.1
  go_wp2_with fail
  refine (HK0.out _).mono ?_
  rintro e w3 ⟨rfl, hb3⟩
  replace HS := hide (show LiesF w3 w.heap.size (dgl a) ∧ Below w.heap.size w w3 from ⟨HS.out.1.below hb3, below_trans HS.out.2 hb3⟩)
  clear hb3 HK0 hl
  go_wp2_with fail
  refine (HM0.out _).mono ?_
  rintro e w4 ⟨rfl, rfl⟩
  clear HM0
  obtain ⟨M, hM⟩ : ∃ M, t % 4 = M := ⟨_, rfl⟩
  have hM4 : M < 4 := by omega
  have htm : ((t : Nat) : Int).tmod 4 = ((M : Nat) : Int) := by rw [Int.tmod_eq_emod_of_nonneg (by omega)]; omega
  have hwM : IntKind.i64.wrap ((M : Nat) : Int) = ((M : Nat) : Int) := by rw [IntKind.wrap_i64]; omega
  have hwM8 : IntKind.u8.wrap ((M : Nat) : Int) = ((M : Nat) : Int) := by rw [IntKind.wrap_u8]; omega
  clear hM
  go_wp2
  go_loopw [16] (fun kv wr => ∃ k : Nat, k ≤ 4 ∧ kv = .int .i64 (k : Nat) ∧ Hid (LiesF wr w.heap.size (dgl a) ∧ Below w.heap.size w wr))
    (fun kv _ => 4 - (intOf kv).toNat)
  case atStart => exact ⟨0, by omega, rfl, HS⟩
  case round =>
    clear HS
    obtain ⟨k, hk, rfl, HS⟩ := hrel
    by_cases hlt : k < 4
    · have hlt' : (k : Int) < 4 := by omega
      go_wp2_with fail
      refine (HN.out _).mono ?_
      rintro e w5 ⟨b, rfl, hr, hb5, hl5⟩
      have HSb := hide (show OnSt17 b a false w w5 w5 from ⟨hr, HS.out.1.below hb5, below_trans HS.out.2 hb5, by have := HS.out.1.2; omega⟩)
      have HMM := hide (HM.out b false w5 w5 hr)
      clear hr hb5 hl5 HS
      go_wp2_with fail
      refine HMM.out.mono ?_
      rintro e w6 ⟨rfl, rfl⟩
      clear HMM
      go_wp2
      go_loopw [18] (fun nv wr => ∃ (n : Nat) (d : Bool) (wq : World), n ≤ M + 1 ∧ nv = .int .i64 (n : Nat) ∧ Hid (OnSt17 b a d w wq wr))
        (fun nv _ => M + 1 - (intOf nv).toNat)
      case atStart => exact ⟨0, false, _, by omega, rfl, HSb⟩
      case round =>
        clear HSb
        obtain ⟨n, d, wq, hn, rfl, HSn⟩ := hrel
        by_cases hnl : n ≤ M
        · have hnl' : (n : Int) ≤ (M : Int) := by omega
          have hw1 : IntKind.i64.wrap ((k : Int) + (n : Int)) = ((k + n : Nat) : Int) := by rw [IntKind.wrap_i64]; omega
          have hw2 : IntKind.i64.wrap ((n : Int) + 1) = ((n + 1 : Nat) : Int) := by rw [IntKind.wrap_i64]; omega
          obtain ⟨m, hm⟩ : ∃ m, (k + n) % 4 = m := ⟨_, rfl⟩
          have hm4 : m < 4 := by omega
          have htm2 : ((k + n : Nat) : Int).tmod 4 = ((m : Nat) : Int) := by rw [Int.tmod_eq_emod_of_nonneg (by omega)]; omega
          have hl := HSn.out.l.1
          clear hm
          generalize k + n = kn at *
          rcases (show m = 0 ∨ m = 1 ∨ m = 2 ∨ m = 3 by omega) with rfl | rfl | rfl | rfl
          · go_wp2_with fail
            refine (HR.out b _ wr wr (HSn.out.step)).mono ?_
            rintro e' w8 ⟨v8, rfl, h8⟩
            have HS8 := hide (HSn.out.next h8)
            have HMM := hide (HM.out b true wr w8 h8)
            clear h8 HSn hl
            go_wp2_with fail
            refine HMM.out.mono ?_
            rintro e' w9 ⟨rfl, rfl⟩
            clear HMM
            go_wp2
            go_roundw
            case rel => exact ⟨n + 1, true, wr, by omega, by first | rfl | go_num, HS8⟩
            case measure => simp [intOf]; omega
          · go_wp2_with fail
            refine (HT.out b _ wr wr (HSn.out.step)).mono ?_
            rintro e' w8 ⟨v8, rfl, h8⟩
            have HS8 := hide (HSn.out.next h8)
            have HMM := hide (HM.out b true wr w8 h8)
            clear h8 HSn hl
            go_wp2_with fail
            refine HMM.out.mono ?_
            rintro e' w9 ⟨rfl, rfl⟩
            clear HMM
            go_wp2
            go_roundw
            case rel => exact ⟨n + 1, true, wr, by omega, by first | rfl | go_num, HS8⟩
            case measure => simp [intOf]; omega
          · go_wp2_with fail
            refine (HG.out b _ wr wr (HSn.out.step)).mono ?_
            rintro e' w8 ⟨v8, rfl, h8⟩
            have HS8 := hide (HSn.out.next h8)
            have HMM := hide (HM.out b true wr w8 h8)
            clear h8 HSn hl
            go_wp2_with fail
            refine HMM.out.mono ?_
            rintro e' w9 ⟨rfl, rfl⟩
            clear HMM
            go_wp2
            go_roundw
            case rel => exact ⟨n + 1, true, wr, by omega, by first | rfl | go_num, HS8⟩
            case measure => simp [intOf]; omega
          · go_wp2_with fail
            refine (HK.out b _ wr wr (HSn.out.step)).mono ?_
            rintro e' w8 ⟨v8, rfl, h8⟩
            have HS8 := hide (HSn.out.next h8)
            have HMM := hide (HM.out b true wr w8 h8)
            clear h8 HSn hl
            go_wp2_with fail
            refine HMM.out.mono ?_
            rintro e' w9 ⟨rfl, rfl⟩
            clear HMM
            go_wp2
            go_roundw
            case rel => exact ⟨n + 1, true, wr, by omega, by first | rfl | go_num, HS8⟩
            case measure => simp [intOf]; omega
        · have hnl' : ¬ (n : Int) ≤ (M : Int) := by omega
          have hw3 : IntKind.i64.wrap ((k : Int) + 1) = ((k + 1 : Nat) : Int) := by rw [IntKind.wrap_i64]; omega
          have HL := hide (show LiesF wr w.heap.size (dgl a) ∧ Below w.heap.size w wr from ⟨HSn.out.l, HSn.out.bel⟩)
          clear HSn
          go_wp2
          go_roundw
          case rel => exact ⟨k + 1, by omega, by first | rfl | go_num, HL⟩
          case measure => simp [intOf]; omega
    · have hlt' : ¬ (k : Int) < 4 := by omega
      go_wp2_with fail
      refine (HAW.out _).mono ?_
      rintro e w5 ⟨rfl, hb5⟩
      have HB := hide (below_trans HS.out.2 hb5)
      clear hb5 HS
      go_wp2
      go_ret
      exact ⟨rfl, HB.out⟩
theorem made_of (b : Nat) (d : Bool) (w W : World) (H : RomD b d w W) : Calls Try.prog 22 #[.pointer (some ⟨b, 0, none⟩)] W fun e w' => e = .returned (.int .i64 (bif d then 1 else 0)) ∧ w' = W :=
  made_any b _ W H.c3 (by cases d <;> simp)
theorem romOnce_any (i : Int) (a t : Nat) (hi : -9223372036854775808 ≤ i ∧ i ≤ 9223372036854775807) (ha : a < QQ) (ht : t < 256) (w : World) :
    Calls Try.prog 5 #[.int .i64 i, .agg #[.int .u64 (dgl (a) 0 : Nat), .int .u64 (dgl (a) 1 : Nat), .int .u64 (dgl (a) 2 : Nat), .int .u64 (dgl (a) 3 : Nat), .int .u64 (dgl (a) 4 : Nat), .int .u64 (dgl (a) 5 : Nat), .int .u64 (dgl (a) 6 : Nat), .int .u64 (dgl (a) 7 : Nat)], .int .u8 (t : Nat)] w fun e w' => e = .returned (.bool true) ∧ Below w.heap.size w w' :=
  romOnce_walk i a t ht w (hide fun w => rnew_any w) (hide fun w => recip_nil i w) (hide fun w => rootm_nil i w) (hide fun w => guess_nil a ha w) (hide fun w => guessR_nil a ha w) (hide fun w => made_nil w)
    (hide fun b d w W h => (recip_any b d i w W h).mono fun e w' h => ⟨_, h.1, h.2⟩) (hide fun b d w W h => (rootm_any b d i hi w W h).mono fun e w' h => ⟨_, h.1, h.2⟩)
    (hide fun b d w W h => (guess_any b d a ha w W h).mono fun e w' h => ⟨_, h.1, h.2⟩) (hide fun b d w W h => (guessR_any b d a ha w W h).mono fun e w' h => ⟨_, h.1, h.2⟩)
    (hide fun b d w W h => made_of b d w W h) (hide fun w => awake17_any w)
theorem u8_natR {a : Int} (h : (Lit.int .u8 a).wf = true) : ∃ x : Nat, a = (x : Int) ∧ x < 256 := by
  simp only [Lit.wf, Bool.and_eq_true, decide_eq_true_eq] at h
  have hmin : IntKind.u8.min = 0 := rfl
  have hmax : IntKind.u8.max = 255 := rfl
  exact ⟨a.toNat, by omega, by omega⟩
end Go.Proofs.Yteocibahclpegaa

/- For all places, wides and counts the law radicandlaw17.RomOnce returns true and leaves what came in as it was. No condition. -/
namespace Go.Proofs.Yteocibahclpegaa.romOnce
open Go.ChangeShapes Go.WideShapes Go.ChangeAt Go.RowKit Go.Proofs.Yteocibahclpegaa

theorem own : ownKnob Try.prog.godebug = none := by kernel_rfl
theorem laidOut : laidOutB Try.prog = true := by kernel_rfl

set_option maxRecDepth 100000 in
theorem lifted (os : Os) (started : os.Started) (H : Type) (enc : TypeId × Value → H) :
    ReturnsInHanded {} Try.checked os 5 .any (Rows.romOnceSpec.pre6 enc Try.prog Try.f5 Rows.romOnceRow.domain false) (Rows.romOnceSpec.post enc Try.prog Try.f5 false true false false) := by
  refine returnsInHanded_of_change (C := Try.checked) own started (by kernel_rfl) Try.func5
    (ChangeSpec.witness6 (enc := enc) (C := Try.checked) false ⟨#[], #[.int .i64 0, .agg #[.int .u64 0, .int .u64 0, .int .u64 0, .int .u64 0, .int .u64 0, .int .u64 0, .int .u64 0, .int .u64 0], .int .u8 0], []⟩ 40 (by kernel_rfl) (by kernel_rfl) (by kernel_rfl) (by kernel_rfl)) ?_
  intro W base args ds gs before hval0 hW hcnd _
  have hval : ∀ (j : Nat) t v, Try.f5.params[j]? = some t → args[j]? = some v → Value.okWide Try.prog W .any base t v := hval0
  have hW' := hW
  obtain ⟨p, q, hA0, hV, rfl, hfz, hnd⟩ := hW
  have hA : DataW.TrodAll enc Try.prog W 0 (fun _ => true) true Try.f5.params.toList args.toList ds p := hA0
  rw [Try.params5] at hA hval
  obtain ⟨v0, vs0, d0, ds0, p0, q0, hargs, rfl, rfl, h0, r0⟩ := trodAll_cons hA
  obtain ⟨v1, vs1, d1, ds1, p1, q1, rfl, rfl, rfl, h1, r1⟩ := trodAll_cons r0
  obtain ⟨v2, vs2, d2, ds2, p2, q2, rfl, rfl, rfl, h2, r2⟩ := trodAll_cons r1
  obtain ⟨rfl, rfl, rfl⟩ := trodAll_nil r2
  obtain rfl : args = #[v0, v1, v2] := by cases args; simp_all
  obtain ⟨rfl, rfl⟩ := trodVars_none hV
  have k0 := h0
  have lt0 : ∀ x ∈ p0, x.block < W.heap.size := by obtain ⟨m, hm⟩ := k0; exact DataW.trod_lt m _ _ _ hm
  have k1 := h1
  have lt1 : ∀ x ∈ p1, x.block < W.heap.size := by obtain ⟨m, hm⟩ := k1; exact DataW.trod_lt m _ _ _ hm
  have k2 := h2
  have lt2 : ∀ x ∈ p2, x.block < W.heap.size := by obtain ⟨m, hm⟩ := k2; exact DataW.trod_lt m _ _ _ hm
  obtain ⟨a0, rfl, rfl, rfl, wf0⟩ := open_int Try.underlying3 (hval 0 3 v0 rfl rfl) h0
  obtain ⟨x1, hx1, rfl⟩ := wide_of_trod (hval 1 32 v1 rfl rfl) h1
  obtain ⟨a2, rfl, rfl, rfl, wf2⟩ := open_int Try.underlying5 (hval 2 5 v2 rfl rfl) h2
  clear hA0 hval0
  obtain ⟨z2, rfl, hz2⟩ := u8_natR wf2
  refine (romOnce_any a0 x1 z2 (i64_bd wf0) hx1 hz2 W).mono fun e W' ⟨he, bel⟩ => ?_
  subst he
  exact ⟨_, rfl, _, _, _, [], _, [], hW', trodAll_mk1 (shut_bool Try.underlying4 _), (trodAll_cons_mk (Below.trod laidOut (by kernel_rfl) (of_decide_eq_true (by kernel_rfl)) k0 bel lt0) (trodAll_cons_mk (Below.trod laidOut (by kernel_rfl) (of_decide_eq_true (by kernel_rfl)) k1 bel lt1) (trodAll_cons_mk (Below.trod laidOut (by kernel_rfl) (of_decide_eq_true (by kernel_rfl)) k2 bel lt2) trodAll_mk0))), rfl, bel.frame _, fun h => by cases h⟩

theorem over : Rows.romOnceRow.holds Try.pinned (OpenSpec.ofChange Rows.romOnceSpec) :=
  OpenClaim.holds_of_wide 5 Try.f5 rfl rfl rfl rfl rfl rfl rfl ⟨rfl, rfl, rfl, rfl, rfl⟩ rfl rfl rfl rfl rfl (by kernel_rfl) Try.func5 (by kernel_rfl)
    (of_decide_eq_true (by kernel_rfl)) (by unfold Func.isWrapper; first | (rw [if_pos (by decide +kernel)]; kernel_rfl) | (rw [if_neg (by decide +kernel)]; exact ⟨rfl, rfl⟩))
    (fun os started H enc _ => lifted os started H enc)

theorem proved : Rows.RomOnceSaid := over
#print axioms proved
end Go.Proofs.Yteocibahclpegaa.romOnce

