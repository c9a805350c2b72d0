/- For all ints and all texts the law radicandlaw04.DigitsInts returns true, and its arguments read afterwards as they read before. No condition. -/
import Derived.Test.YtjklehlkgccmnaaBaseY
import Derived.Test.YtjklehlkgccmnaaRows
import Derived.WalkKit
import Derived.ProofKit
import Derived.OpenShut
import Derived.ShutString
import Derived.ChangeOld
import Derived.Below
import Derived.ChangeMaps5
/- For all ints and all texts the law radicandlaw04.DigitsInts returns true. -/
set_option linter.unusedVariables false
set_option linter.unusedSimpArgs false
set_option maxRecDepth 8000
namespace Go.Proofs.Ytjklehlkgccmnaa
open Go.RowKit Plain

set_option maxHeartbeats 1000000 in
theorem digitsInts_long (n : Int) (s : ByteArray) (hs : s.size ≤ 9223372036854775807) (hl : 100 < s.size) (w : World) :
    Calls Try.prog 7 #[.int .i64 n, .string s] w fun e w' => e = .returned (.bool true) ∧ Below w.heap.size w w' := by
  have hl' : (100 : Int) < (s.size : Int) := by omega
  have hs' : (s.size : Int) ≤ 9223372036854775807 := by omega
  go_enter Try.func7, Try.ntmps7
  go_wp2_with fail
  refine (awake4_any _).mono ?_
  rintro e w' ⟨rfl, hb⟩
  have HBL := hide hb
  clear hb
  go_wp2
  go_ret
  exact ⟨rfl, HBL.out⟩

set_option maxHeartbeats 1000000 in
theorem digitsInts_first (n : Int) (s t : ByteArray) (z c : Int) (hs : s.size ≤ 100) (w : World)
    (HI : Hid (∀ w, Calls Try.prog 22 #[.int .i64 n] w fun e w' => e = .returned (.string t) ∧ Below w.heap.size w w'))
    (HPT : Hid (∀ w, Calls Try.prog 23 #[.string t] w fun e w' => e = .returned (.tuple #[.int .i64 n, .int .i64 0]) ∧ Below w.heap.size w w'))
    (HRT : Hid (∀ w, Calls Try.prog 24 #[.string t] w fun e w' => e = .returned (.tuple #[.int .i64 n, .int .i64 0]) ∧ Below w.heap.size w w'))
    (HPS : Hid (∀ w, Calls Try.prog 23 #[.string s] w fun e w' => e = .returned (.tuple #[.int .i64 z, .int .i64 c]) ∧ Below w.heap.size w w'))
    (HRS : Hid (∀ w, Calls Try.prog 24 #[.string s] w fun e w' => e = .returned (.tuple #[.int .i64 z, .int .i64 c]) ∧ Below w.heap.size w w')) :
    Calls Try.prog 7 #[.int .i64 n, .string s] w fun e w' => e = .returned (.bool true) ∧ Below w.heap.size w w' := by
  have hl : ¬ (100 : Int) < (s.size : Int) := by omega
  have HBL := hide (Below.refl w.heap.size w)
  go_enter Try.func7, Try.ntmps7
  go_wp2_with fail
  refine (HI.out _).mono ?_
  rintro e w1 ⟨rfl, hb1⟩
  replace HBL := hide (below_trans HBL.out hb1)
  clear hb1
  go_wp2_with fail
  refine (HPT.out _).mono ?_
  rintro e w2 ⟨rfl, hb2⟩
  replace HBL := hide (below_trans HBL.out hb2)
  clear hb2
  go_wp2_with fail
  refine (HPS.out _).mono ?_
  rintro e w3 ⟨rfl, hb3⟩
  replace HBL := hide (below_trans HBL.out hb3)
  clear hb3
  go_wp2_with fail
  refine (HRS.out _).mono ?_
  rintro e w4 ⟨rfl, hb4⟩
  replace HBL := hide (below_trans HBL.out hb4)
  clear hb4
  go_wp2_with fail
  refine (HRT.out _).mono ?_
  rintro e w5 ⟨rfl, hb5⟩
  replace HBL := hide (below_trans HBL.out hb5)
  clear hb5
  go_wp2_with fail
  refine (awake4_any _).mono ?_
  rintro e w' ⟨rfl, hb⟩
  replace HBL := hide (below_trans HBL.out hb)
  clear hb
  go_wp2
  go_ret
  exact ⟨rfl, HBL.out⟩

theorem digitsInts_walk (n : Int) (h1 : -9223372036854775808 ≤ n) (h2 : n ≤ 9223372036854775807) (s : ByteArray) (hs : s.size ≤ 9223372036854775807) (w : World) :
    Calls Try.prog 7 #[.int .i64 n, .string s] w fun e w' => e = .returned (.bool true) ∧ Below w.heap.size w w' := by
  by_cases hlong : 100 < s.size
  · exact digitsInts_long n s hs hlong w
  obtain ⟨z, c, hPS, hRS⟩ := int_both s (by omega)
  by_cases hneg : n < 0
  · obtain ⟨x, rfl⟩ : ∃ x : Nat, n = -(x : Int) := ⟨(-n).toNat, by omega⟩
    obtain ⟨k, hk⟩ := decN_ex x
    obtain ⟨hp, hsz, hq, hT, hnum⟩ := int_own x k (by omega) hk
    have hm := minus_neg x k
    have hks := textN_size 10 x k
    have hts : ((⟨#[45]⟩ : ByteArray) ++ textN 10 x k).size ≤ 100 := by
      rw [ByteArray.size_append]
      have : (⟨#[45]⟩ : ByteArray).size = 1 := rfl
      omega
    exact digitsInts_first _ s _ z c (by omega) w (fun w => int_neg x k (by omega) (by omega) hk w)
      (fun w => parseInt_neg _ _ true x hm rfl (by omega) (by omega) w (fun w => parseDecimal_any _ x 0 (by omega) hT w))
      (fun w => refInt_neg _ _ (by omega) hm hp hsz x hq hT (plain_nz (by omega)) (by omega) (by omega) w) hPS hRS
  · obtain ⟨x, rfl⟩ : ∃ x : Nat, n = (x : Int) := ⟨n.toNat, by omega⟩
    obtain ⟨k, hk⟩ := decN_ex x
    obtain ⟨hp, hsz, hq, hT, hnum⟩ := int_own x k (by omega) hk
    have hm := minus_pos hk
    exact digitsInts_first _ s _ z c (by omega) w (fun w => int_pos x k (by omega) hk w)
      (fun w => parseInt_pos _ _ false x hm rfl (by omega) w (fun w => parseDecimal_any _ x 0 (by omega) hT w))
      (fun w => refInt_pos _ _ (by omega) hm hp hsz x hq hT (by omega) w) hPS hRS

end Go.Proofs.Ytjklehlkgccmnaa

/- For all ints and all texts the law radicandlaw04.DigitsInts returns true, and its arguments read afterwards as they read before. No condition. -/
namespace Go.Proofs.Ytjklehlkgccmnaa.digitsInts
open Go.ChangeShapes Go.WideShapes Go.ChangeAt Go.RowKit Go.Proofs.Ytjklehlkgccmnaa

theorem own : ownKnob Try.prog.godebug = none := by kernel_rfl
theorem laidOut : laidOutB Try.prog = true := by kernel_rfl

set_option maxRecDepth 100000 in
theorem lifted (os : Os) (started : os.Started) (H : Type) (enc : TypeId × Value → H) :
    ReturnsInHanded {} Try.checked os 7 .any (Rows.digitsIntsSpec.pre6 enc Try.prog Try.f7 Rows.digitsIntsRow.domain false) (Rows.digitsIntsSpec.post enc Try.prog Try.f7 false true false false) := by
  refine returnsInHanded_of_change (C := Try.checked) own started (by kernel_rfl) Try.func7
    (ChangeSpec.witness6 (enc := enc) (C := Try.checked) false ⟨#[], #[.int .i64 0, .string ⟨#[]⟩], []⟩ 8 (by kernel_rfl) (by kernel_rfl) (by kernel_rfl) (by kernel_rfl)) ?_
  intro W base args ds gs before hval0 hW hcnd _
  have hval : ∀ (j : Nat) t v, Try.f7.params[j]? = some t → args[j]? = some v → Value.okWide Try.prog W .any base t v := hval0
  have hW' := hW
  obtain ⟨p, q, hA0, hV, rfl, hfz, hnd⟩ := hW
  have hA : DataW.TrodAll enc Try.prog W 0 (fun _ => true) true Try.f7.params.toList args.toList ds p := hA0
  rw [Try.params7] at hA hval
  obtain ⟨v0, vs0, d0, ds0, p0, q0, hargs, rfl, rfl, h0, r0⟩ := trodAll_cons hA
  obtain ⟨v1, vs1, d1, ds1, p1, q1, rfl, rfl, rfl, h1, r1⟩ := trodAll_cons r0
  obtain ⟨rfl, rfl, rfl⟩ := trodAll_nil r1
  obtain rfl : args = #[v0, v1] := by cases args; simp_all
  obtain ⟨rfl, rfl⟩ := trodVars_none hV
  have k0 := h0
  have lt0 : ∀ x ∈ p0, x.block < W.heap.size := by obtain ⟨m, hm⟩ := k0; exact DataW.trod_lt m _ _ _ hm
  have k1 := h1
  have lt1 : ∀ x ∈ p1, x.block < W.heap.size := by obtain ⟨m, hm⟩ := k1; exact DataW.trod_lt m _ _ _ hm
  obtain ⟨a0, rfl, rfl, rfl, wf0⟩ := open_int Try.underlying3 (hval 0 3 v0 rfl rfl) h0
  obtain ⟨s1, rfl, rfl, rfl, hm1⟩ := Go.ChangeMaps.open_string Try.underlying9 (hval 1 9 v1 rfl rfl) h1
  clear hA0 hval0
  have hb0 := i64_bd wf0
  have hs1 : s1.size ≤ 9223372036854775807 := by unfold maxLen at hm1; omega
  refine (digitsInts_walk a0 hb0.1 hb0.2 s1 hs1 W).mono fun e W' ⟨he, bel⟩ => ?_
  subst he
  exact ⟨_, rfl, _, _, _, [], _, [], hW', trodAll_mk1 (shut_bool Try.underlying4 _), (trodAll_cons_mk (Below.trod laidOut (by kernel_rfl) (of_decide_eq_true (by kernel_rfl)) k0 bel lt0) (trodAll_cons_mk (Below.trod laidOut (by kernel_rfl) (of_decide_eq_true (by kernel_rfl)) k1 bel lt1) trodAll_mk0)), rfl, bel.frame _, fun h => by cases h⟩

theorem over : Rows.digitsIntsRow.holds Try.pinned (OpenSpec.ofChange Rows.digitsIntsSpec) :=
  OpenClaim.holds_of_wide 7 Try.f7 rfl rfl rfl rfl rfl rfl rfl ⟨rfl, rfl, rfl, rfl, rfl⟩ rfl rfl rfl rfl rfl (by kernel_rfl) Try.func7 (by kernel_rfl)
    (of_decide_eq_true (by kernel_rfl)) (by unfold Func.isWrapper; first | (rw [if_pos (by decide +kernel)]; kernel_rfl) | (rw [if_neg (by decide +kernel)]; exact ⟨rfl, rfl⟩))
    (fun os started H enc _ => lifted os started H enc)

theorem proved : Rows.DigitsIntsSaid := over
#print axioms proved
end Go.Proofs.Ytjklehlkgccmnaa.digitsInts

