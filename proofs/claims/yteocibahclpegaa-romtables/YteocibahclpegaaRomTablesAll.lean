/- For every int the law radicandlaw17.RomTables returns true and leaves what came in as it was. No condition. -/
import Derived.Test.YteocibahclpegaaPartAR
import Derived.Test.YteocibahclpegaaRows
import Derived.WalkKit
import Derived.ProofKit
import Derived.OpenShut
import Derived.ShutString
import Derived.ChangeOld
import Derived.Below
/- For every int the law radicandlaw17.RomTables returns true. -/
set_option linter.unusedVariables false
set_option linter.unusedSimpArgs false
set_option maxRecDepth 8000
namespace Go.Proofs.Yteocibahclpegaa
open Go.RowKit Plain
set_option maxHeartbeats 2000000 in
theorem romTables_walk (i : Int) (x y : Nat) (ok is : Bool) (w : World)
    (HN : Hid (∀ w, Calls Try.prog 9 #[] w fun e w' => ∃ b, e = .returned (.pointer (some ⟨b, 0, none⟩)) ∧ RomD b false w' w' ∧ Below w.heap.size w w' ∧ w.heap.size ≤ b))
    (HR : Hid (∀ b w W, RomD b false w W → Calls Try.prog 10 #[.pointer (some ⟨b, 0, none⟩), .int .i64 i] W fun e w' => e = .returned (.tuple #[.int .u64 (x : Nat), .bool ok]) ∧ RomD b true w w'))
    (HT : Hid (∀ b w W, RomD b true w W → Calls Try.prog 11 #[.pointer (some ⟨b, 0, none⟩), .int .i64 i] W fun e w' => e = .returned (.tuple #[.int .u64 (y : Nat), .bool is]) ∧ RomD b true w w'))
    (HFR : Hid (∀ w, Calls Try.prog 12 #[.int .i64 i] w fun e w' => e = .returned (.tuple #[.int .u64 (x : Nat), .bool ok]) ∧ w' = w))
    (HFT : Hid (∀ w, Calls Try.prog 13 #[.int .i64 i] w fun e w' => e = .returned (.tuple #[.int .u64 (y : Nat), .bool is]) ∧ w' = w))
    (HAW : Hid (∀ w, Calls Try.prog 14 #[] w fun e w' => e = .returned (.bool true) ∧ Below w.heap.size w w')) :
    Calls Try.prog 3 #[.int .i64 i] w fun e w' => e = .returned (.bool true) ∧ Below w.heap.size w w' := by
  go_enter Try.func3, Try.ntmps3
  go_wp2_with fail
  refine (HN.out _).mono ?_
  rintro e w1 ⟨b, rfl, hr, hb1, hl⟩
  have HR1 := hide (HR.out b w1 w1 hr)
  have HB := hide (show Below w.heap.size w w1 ∧ w.heap.size ≤ b from ⟨hb1, hl⟩)
  clear hr hb1 hl HN HR
  go_wp2_with fail
  refine HR1.out.mono ?_
  rintro e w2 ⟨rfl, h2⟩
  have HT1 := hide (HT.out b w1 w2 h2)
  clear h2 HT HR1
  go_wp2_with fail
  refine HT1.out.mono ?_
  rintro e w3 ⟨rfl, h3⟩
  have HB3 := hide (rom_under h3 HB.out.1 HB.out.2)
  clear h3 HT1 HB
  go_wp2_with fail
  refine (HFR.out _).mono ?_
  rintro e w4 ⟨rfl, rfl⟩
  clear HFR
  go_wp2_with fail
  refine (HFT.out _).mono ?_
  rintro e w5 ⟨rfl, rfl⟩
  clear HFT
  go_wp2_with fail
  refine (HAW.out _).mono ?_
  rintro e w6 ⟨rfl, hb6⟩
  have HB6 := hide (below_trans HB3.out hb6)
  clear hb6 HAW HB3
  go_wp2
  go_ret
  exact ⟨rfl, HB6.out⟩
theorem romTables_any (i : Int) (hi : -9223372036854775808 ≤ i ∧ i ≤ 9223372036854775807) (w : World) :
    Calls Try.prog 3 #[.int .i64 i] w fun e w' => e = .returned (.bool true) ∧ Below w.heap.size w w' :=
  romTables_walk i (rcV i) (rtV i) (rcO i) (rtO i) w (hide fun w => rnew_any w) (hide fun b w W h => recip_any b false i w W h) (hide fun b w W h => rootm_any b true i hi w W h) (hide fun w => recip17_any i w) (hide fun w => root17_any i w) (hide fun w => awake17_any w)
end Go.Proofs.Yteocibahclpegaa

/- For every int the law radicandlaw17.RomTables returns true and leaves what came in as it was. No condition. -/
namespace Go.Proofs.Yteocibahclpegaa.romTables
open Go.ChangeShapes Go.WideShapes Go.ChangeAt Go.RowKit Go.Proofs.Yteocibahclpegaa

theorem own : ownKnob Try.prog.godebug = none := by kernel_rfl
theorem laidOut : laidOutB Try.prog = true := by kernel_rfl

set_option maxRecDepth 100000 in
theorem lifted (os : Os) (started : os.Started) (H : Type) (enc : TypeId × Value → H) :
    ReturnsInHanded {} Try.checked os 3 .any (Rows.romTablesSpec.pre6 enc Try.prog Try.f3 Rows.romTablesRow.domain false) (Rows.romTablesSpec.post enc Try.prog Try.f3 false true false false) := by
  refine returnsInHanded_of_change (C := Try.checked) own started (by kernel_rfl) Try.func3
    (ChangeSpec.witness6 (enc := enc) (C := Try.checked) false ⟨#[], #[.int .i64 0], []⟩ 8 (by kernel_rfl) (by kernel_rfl) (by kernel_rfl) (by kernel_rfl)) ?_
  intro W base args ds gs before hval0 hW hcnd _
  have hval : ∀ (j : Nat) t v, Try.f3.params[j]? = some t → args[j]? = some v → Value.okWide Try.prog W .any base t v := hval0
  have hW' := hW
  obtain ⟨p, q, hA0, hV, rfl, hfz, hnd⟩ := hW
  have hA : DataW.TrodAll enc Try.prog W 0 (fun _ => true) true Try.f3.params.toList args.toList ds p := hA0
  rw [Try.params3] at hA hval
  obtain ⟨v0, vs0, d0, ds0, p0, q0, hargs, rfl, rfl, h0, r0⟩ := trodAll_cons hA
  obtain ⟨rfl, rfl, rfl⟩ := trodAll_nil r0
  obtain rfl : args = #[v0] := by cases args; simp_all
  obtain ⟨rfl, rfl⟩ := trodVars_none hV
  have k0 := h0
  have lt0 : ∀ x ∈ p0, x.block < W.heap.size := by obtain ⟨m, hm⟩ := k0; exact DataW.trod_lt m _ _ _ hm
  obtain ⟨a0, rfl, rfl, rfl, wf0⟩ := open_int Try.underlying3 (hval 0 3 v0 rfl rfl) h0
  clear hA0 hval0
  refine (romTables_any a0 (i64_bd wf0) W).mono fun e W' ⟨he, bel⟩ => ?_
  subst he
  exact ⟨_, rfl, _, _, _, [], _, [], hW', trodAll_mk1 (shut_bool Try.underlying4 _), (trodAll_cons_mk (Below.trod laidOut (by kernel_rfl) (of_decide_eq_true (by kernel_rfl)) k0 bel lt0) trodAll_mk0), rfl, bel.frame _, fun h => by cases h⟩

theorem over : Rows.romTablesRow.holds Try.pinned (OpenSpec.ofChange Rows.romTablesSpec) :=
  OpenClaim.holds_of_wide 3 Try.f3 rfl rfl rfl rfl rfl rfl rfl ⟨rfl, rfl, rfl, rfl, rfl⟩ rfl rfl rfl rfl rfl (by kernel_rfl) Try.func3 (by kernel_rfl)
    (of_decide_eq_true (by kernel_rfl)) (by unfold Func.isWrapper; first | (rw [if_pos (by decide +kernel)]; kernel_rfl) | (rw [if_neg (by decide +kernel)]; exact ⟨rfl, rfl⟩))
    (fun os started H enc _ => lifted os started H enc)

theorem proved : Rows.RomTablesSaid := over
#print axioms proved
end Go.Proofs.Yteocibahclpegaa.romTables

