/- Contracts and laws: DigR, DigS. -/
import Derived.Test.YtjklehlkgccmnaaBaseW
import Derived.Shelf.Small.Wraps
/- Contracts: strings.CutPrefix of a minus sign. -/
set_option linter.unusedVariables false
set_option linter.unusedSimpArgs false
set_option maxRecDepth 8000
namespace Go.Proofs.Ytjklehlkgccmnaa
open Go.RowKit Plain Go.Shelf

def renCut : Ren := { f := fun n => if n = 103 then 46 else if n = 210 then 63 else if n = 206 then 73 else n, t := fun n => if n = 24 then 76 else n, g := fun n => n }
theorem laysCut : Lays.n103 Try.prog renCut where
  mixed := by kernel_rfl
  f103 := by kernel_rfl
  f206 := by kernel_rfl
  f210 := by kernel_rfl
  t3 := by kernel_rfl
  a3 := fun _ => by kernel_rfl
  z3 := fun _ => by kernel_rfl
  v3 := fun _ => by kernel_rfl
  t4 := by kernel_rfl
  a4 := fun _ => by kernel_rfl
  z4 := fun _ => by kernel_rfl
  v4 := fun _ => by kernel_rfl
  t9 := by kernel_rfl
  a9 := fun _ => by kernel_rfl
  z9 := fun _ => by kernel_rfl
  v9 := fun _ => by kernel_rfl
  t24 := by kernel_rfl
  a24 := fun _ => by kernel_rfl
  z24 := fun _ => by kernel_rfl
  v24 := fun _ => by kernel_rfl

/-- A text has a minus sign at its front, or none; d is what follows. -/
def MinusOf (s : ByteArray) (m : Bool) (d : ByteArray) : Prop :=
  (m = true ∧ 0 < s.size ∧ byteN s 0 = 45 ∧ d = s.extract 1 s.size) ∨ (m = false ∧ (s.size = 0 ∨ byteN s 0 ≠ 45) ∧ d = s)
theorem minus_ex (s : ByteArray) : ∃ m d, MinusOf s m d := by
  by_cases h : 0 < s.size ∧ byteN s 0 = 45
  · exact ⟨_, _, .inl ⟨rfl, h.1, h.2, rfl⟩⟩
  · refine ⟨_, _, .inr ⟨rfl, ?_, rfl⟩⟩
    by_cases h0 : s.size = 0
    · exact .inl h0
    · exact .inr fun h1 => h ⟨by omega, h1⟩
theorem data_head (s : ByteArray) (h : 0 < s.size) : ∃ r, s.data.toList = s.data.toList.head! :: r ∧ s.data.toList.head!.toNat = byteN s 0 := by
  have hl : s.data.toList.length = s.size := rfl
  cases hd : s.data.toList with
  | nil => rw [hd] at hl; simp at hl; omega
  | cons x r =>
    refine ⟨r, rfl, ?_⟩
    rw [← byte_at s 0 h]
    show x.toNat = (s.data[0]'h).toNat
    rw [← Array.getElem_toList h]
    simp [hd]
theorem cutPrefix_any (s : ByteArray) (m : Bool) (d : ByteArray) (h : MinusOf s m d) (w : World) :
    Calls Try.prog 46 #[.string s, .string ⟨#[45]⟩] w fun e w' => e = .returned (.tuple #[.string d, .bool m]) ∧ w' = w := by
  have hc := Any.strings_CutPrefix laysCut s ⟨#[45]⟩ w
  have key : (⟨(Lib.trimPrefix s.data.toList (ByteArray.mk #[45]).data.toList).toArray⟩ : ByteArray) = d ∧ Lib.hasPrefix s.data.toList (ByteArray.mk #[45]).data.toList = m := by
    rcases h with ⟨rfl, h1, h2, rfl⟩ | ⟨rfl, h1, rfl⟩
    · obtain ⟨r, hr, hx⟩ := data_head s h1
      have hx45 : s.data.toList.head! = 45 := UInt8.toNat_inj.mp (by rw [hx, h2]; rfl)
      have hp : Lib.hasPrefix s.data.toList (ByteArray.mk #[45]).data.toList = true := by
        rw [hr, hx45]
        rfl
      refine ⟨?_, hp⟩
      unfold Lib.trimPrefix
      rw [if_pos hp]
      apply ByteArray.ext
      apply Array.ext'
      show List.drop 1 s.data.toList = _
      rw [ByteArray.data_extract]
      simp
      have hl : s.data.toList.length = s.size := rfl
      rw [List.take_of_length_le (by rw [List.length_tail]; omega)]
    · have hp : Lib.hasPrefix d.data.toList (ByteArray.mk #[45]).data.toList = false := by
        rcases h1 with h0 | h0
        · have hl : d.data.toList.length = d.size := rfl
          have : d.data.toList = [] := List.eq_nil_of_length_eq_zero (by omega)
          rw [this]
          rfl
        · by_cases hz : 0 < d.size
          · obtain ⟨r, hr, hx⟩ := data_head d hz
            have hne : d.data.toList.head! ≠ 45 := fun he => h0 (by rw [← hx, he]; rfl)
            rw [hr]
            show ((45 : UInt8) == d.data.toList.head! && List.isPrefixOf [] r) = false
            rw [beq_eq_false_iff_ne.mpr (Ne.symm hne)]
            rfl
          · have hl : d.data.toList.length = d.size := rfl
            have : d.data.toList = [] := List.eq_nil_of_length_eq_zero (by omega)
            rw [this]
            rfl
      refine ⟨?_, hp⟩
      unfold Lib.trimPrefix
      rw [if_neg (by rw [hp]; decide)]
  rw [key.1, key.2] at hc
  exact hc

end Go.Proofs.Ytjklehlkgccmnaa

/- Contracts: digits.ParseInt. -/
set_option linter.unusedVariables false
set_option linter.unusedSimpArgs false
set_option maxRecDepth 8000
namespace Go.Proofs.Ytjklehlkgccmnaa
open Go.RowKit Plain

theorem dgl_small {x : Nat} (h : x < 18446744073709551616) : dgl x 0 = x := by
  unfold dgl
  rw [Nat.pow_zero, Nat.div_one]
  exact Nat.mod_eq_of_lt h

set_option maxHeartbeats 1000000 in
theorem parseInt_err (s d : ByteArray) (m : Bool) (x : Nat) (hmin : MinusOf s m d) (c : Int) (hc : (c != 0) = true) (w : World)
    (HPD : Hid (∀ w, Calls Try.prog 15 #[.string d] w fun e w' => e = .returned (.tuple #[.agg #[.int .u64 (dgl (x) 0 : Nat), .int .u64 (dgl (x) 1 : Nat), .int .u64 (dgl (x) 2 : Nat), .int .u64 (dgl (x) 3 : Nat), .int .u64 (dgl (x) 4 : Nat), .int .u64 (dgl (x) 5 : Nat), .int .u64 (dgl (x) 6 : Nat), .int .u64 (dgl (x) 7 : Nat)], .int .i64 c]) ∧ Below w.heap.size w w')) :
    Calls Try.prog 23 #[.string s] w fun e w' => e = .returned (.tuple #[.int .i64 0, .int .i64 c]) ∧ Below w.heap.size w w' := by
  have HCU := hide (fun w => cutPrefix_any s m d hmin w)
  clear hmin
  go_enter Try.func23, Try.ntmps23
  go_wp2_with (go_at_call 46; refine (HCU.out _).mono ?_; rintro e w' ⟨rfl, hw⟩; subst w')
  refine (HPD.out _).mono ?_
  rintro e w1 ⟨rfl, hb1⟩
  have HB := hide (below_trans hb1 (below_allocs w1 (.cells #[.int .u64 (dgl (x) 0 : Nat), .int .u64 (dgl (x) 1 : Nat), .int .u64 (dgl (x) 2 : Nat), .int .u64 (dgl (x) 3 : Nat), .int .u64 (dgl (x) 4 : Nat), .int .u64 (dgl (x) 5 : Nat), .int .u64 (dgl (x) 6 : Nat), .int .u64 (dgl (x) 7 : Nat)] 24)))
  clear hb1
  go_wp2
  exact bodyPost_ret (v := .tuple #[.int .i64 (0), .int .i64 (c)]) (by simp [results, Try.results23, go_sem]) rfl ⟨rfl, HB.out⟩

set_option maxHeartbeats 1000000 in
theorem parseInt_nil (s d : ByteArray) (m : Bool) (x : Nat) (hmin : MinusOf s m d) (hm : m = true) (hx : x = 0) (w : World)
    (HPD : Hid (∀ w, Calls Try.prog 15 #[.string d] w fun e w' => e = .returned (.tuple #[.agg #[.int .u64 (dgl (x) 0 : Nat), .int .u64 (dgl (x) 1 : Nat), .int .u64 (dgl (x) 2 : Nat), .int .u64 (dgl (x) 3 : Nat), .int .u64 (dgl (x) 4 : Nat), .int .u64 (dgl (x) 5 : Nat), .int .u64 (dgl (x) 6 : Nat), .int .u64 (dgl (x) 7 : Nat)], .int .i64 0]) ∧ Below w.heap.size w w')) :
    Calls Try.prog 23 #[.string s] w fun e w' => e = .returned (.tuple #[.int .i64 0, .int .i64 2]) ∧ Below w.heap.size w w' := by
  have HCU := hide (fun w => cutPrefix_any s m d hmin w)
  clear hmin
  subst hm hx
  replace HPD : Hid (∀ w, Calls Try.prog 15 #[.string d] w fun e w' => e = .returned (.tuple #[.agg #[.int .u64 0, .int .u64 0, .int .u64 0, .int .u64 0, .int .u64 0, .int .u64 0, .int .u64 0, .int .u64 0], .int .i64 0]) ∧ Below w.heap.size w w') := fun w => by
    have := HPD.out w
    simp only [dgl_zero] at this
    exact this
  have hz : ∀ w, (Op.equalIn 10000 24 (.agg #[.int .u64 0, .int .u64 0, .int .u64 0, .int .u64 0, .int .u64 0, .int .u64 0, .int .u64 0, .int .u64 0]) (.agg #[.int .u64 0, .int .u64 0, .int .u64 0, .int .u64 0, .int .u64 0, .int .u64 0, .int .u64 0, .int .u64 0])).run Try.prog w = .ok true w := fun w => wide_sameF (fun _ => 0) w
  go_enter Try.func23, Try.ntmps23
  go_wp2_with (go_at_call 46; refine (HCU.out _).mono ?_; rintro e w' ⟨rfl, hw⟩; subst w')
  refine (HPD.out _).mono ?_
  rintro e w1 ⟨rfl, hb1⟩
  have HB := hide (below_trans hb1 (below_allocs w1 (.cells #[.int .u64 0, .int .u64 0, .int .u64 0, .int .u64 0, .int .u64 0, .int .u64 0, .int .u64 0, .int .u64 0] 24)))
  clear hb1
  go_wp2
  exact bodyPost_ret (v := .tuple #[.int .i64 (0), .int .i64 (2)]) (by simp [results, Try.results23, go_sem]) rfl ⟨rfl, HB.out⟩

set_option maxHeartbeats 1000000 in
theorem parseInt_neg (s d : ByteArray) (m : Bool) (x : Nat) (hmin : MinusOf s m d) (hm : m = true) (hx0 : 0 < x) (hx : x ≤ 9223372036854775808) (w : World)
    (HPD : Hid (∀ w, Calls Try.prog 15 #[.string d] w fun e w' => e = .returned (.tuple #[.agg #[.int .u64 (dgl (x) 0 : Nat), .int .u64 (dgl (x) 1 : Nat), .int .u64 (dgl (x) 2 : Nat), .int .u64 (dgl (x) 3 : Nat), .int .u64 (dgl (x) 4 : Nat), .int .u64 (dgl (x) 5 : Nat), .int .u64 (dgl (x) 6 : Nat), .int .u64 (dgl (x) 7 : Nat)], .int .i64 0]) ∧ Below w.heap.size w w')) :
    Calls Try.prog 23 #[.string s] w fun e w' => e = .returned (.tuple #[.int .i64 (-(x : Int)), .int .i64 0]) ∧ Below w.heap.size w w' := by
  have HCU := hide (fun w => cutPrefix_any s m d hmin w)
  clear hmin
  subst hm
  have hxq : x < QQ := by unfold QQ; omega
  have hz := fun w => wide_eqz hxq w
  rw [show decide (x = 0) = false from decide_eq_false (by omega)] at hz
  have hq := qq_pow 512 rfl
  have HPW : Hid (∀ w, Calls Try.prog 31 #[.int .i64 63] w fun e w' => e = .returned (.agg #[.int .u64 (dgl (9223372036854775808) 0 : Nat), .int .u64 (dgl (9223372036854775808) 1 : Nat), .int .u64 (dgl (9223372036854775808) 2 : Nat), .int .u64 (dgl (9223372036854775808) 3 : Nat), .int .u64 (dgl (9223372036854775808) 4 : Nat), .int .u64 (dgl (9223372036854775808) 5 : Nat), .int .u64 (dgl (9223372036854775808) 6 : Nat), .int .u64 (dgl (9223372036854775808) 7 : Nat)]) ∧ Below w.heap.size w w') := fun w => power_lt 63 512 hq (by decide) 63 rfl rfl w
  clear hq
  have HCMP := hide (fun w => wideCmp_any x 9223372036854775808 hxq (by unfold QQ; omega) w)
  have HCM := hide (decide_eq_false (cmp_nle hx))
  generalize cmpN x 9223372036854775808 = cm at *
  have HD0 := hide (dgl_small (show x < 18446744073709551616 by omega))
  have hw1 : IntKind.u64.wrap (-(x : Int)) = 18446744073709551616 - (x : Int) := by rw [IntKind.wrap_u64]; omega
  have hw2 : IntKind.i64.wrap (18446744073709551616 - (x : Int)) = -(x : Int) := by rw [IntKind.wrap_i64]; omega
  clear hx hx0 hxq
  go_enter Try.func23, Try.ntmps23
  go_wp2_with (go_at_call 46; refine (HCU.out _).mono ?_; rintro e w' ⟨rfl, hw⟩; subst w')
  refine (HPD.out _).mono ?_
  rintro e w1 ⟨rfl, hb1⟩
  have h1 : LiesF (w1.alloc (.cells #[.int .u64 (dgl (x) 0 : Nat), .int .u64 (dgl (x) 1 : Nat), .int .u64 (dgl (x) 2 : Nat), .int .u64 (dgl (x) 3 : Nat), .int .u64 (dgl (x) 4 : Nat), .int .u64 (dgl (x) 5 : Nat), .int .u64 (dgl (x) 6 : Nat), .int .u64 (dgl (x) 7 : Nat)] 24)) w1.heap.size (dgl x) ∧ Below w.heap.size w (w1.alloc (.cells #[.int .u64 (dgl (x) 0 : Nat), .int .u64 (dgl (x) 1 : Nat), .int .u64 (dgl (x) 2 : Nat), .int .u64 (dgl (x) 3 : Nat), .int .u64 (dgl (x) 4 : Nat), .int .u64 (dgl (x) 5 : Nat), .int .u64 (dgl (x) 6 : Nat), .int .u64 (dgl (x) 7 : Nat)] 24)) := ⟨liesF_new w1 (dgl x) 24, below_trans hb1 (below_allocs w1 _)⟩
  clear hb1
  go_upto_region 8 with fail
  refine wp_gen (fun W => LiesF W w1.heap.size (dgl x) ∧ Below w.heap.size w W) h1 ?_
  clear h1
  rintro W2 h1
  generalize w1.heap.size = p6 at *
  refine wp_region_grow 4 [(31, .val (.agg #[.int .u64 (dgl (x) 0 : Nat), .int .u64 (dgl (x) 1 : Nat), .int .u64 (dgl (x) 2 : Nat), .int .u64 (dgl (x) 3 : Nat), .int .u64 (dgl (x) 4 : Nat), .int .u64 (dgl (x) 5 : Nat), .int .u64 (dgl (x) 6 : Nat), .int .u64 (dgl (x) 7 : Nat)])), (32, .val (.agg #[.int .u64 (dgl (9223372036854775808) 0 : Nat), .int .u64 (dgl (9223372036854775808) 1 : Nat), .int .u64 (dgl (9223372036854775808) 2 : Nat), .int .u64 (dgl (9223372036854775808) 3 : Nat), .int .u64 (dgl (9223372036854775808) 4 : Nat), .int .u64 (dgl (9223372036854775808) 5 : Nat), .int .u64 (dgl (9223372036854775808) 6 : Nat), .int .u64 (dgl (9223372036854775808) 7 : Nat)])), (33, .val (.int .i64 cm)), (34, .val (.bool false))]
    (fun W => LiesF W p6 (dgl x) ∧ Below w.heap.size w W) mixedOk (by kernel_rfl) (by kernel_rfl) (⟨h1.1.below (Below.refl _ _).drew, h1.2.drew⟩) (fun W W' h hb => ⟨h.1.below hb, below_trans h.2 hb⟩) ?_ ?_
  · refine gSt (gStep_run rfl ?_) ?_
    · intro ρ W hC hc hf hL
      have e6 : ρ (.tmp 6) = .pointer (some ⟨p6, 0, none⟩) := hL 6 (by decide +kernel)
      have hl := hC.1.1
      simp [go_sem, hc, hf, e6, hl]
      exact ⟨Below.refl _ _, rfl⟩
    refine gSt (gStep_run rfl ?_) ?_
    · intro ρ W hC hc hf hL
      simp [go_sem, hc, hf]
      refine (HPW.out W).mono ?_
      rintro e w' ⟨rfl, hb⟩
      exact ⟨_, rfl, by first | exact hb | (subst hb; exact Below.refl _ _), rfl⟩
    refine gSt (gStep_run rfl ?_) ?_
    · intro ρ W hC hc hf hL
      have e31 : ρ (.tmp 31) = .agg #[.int .u64 (dgl (x) 0 : Nat), .int .u64 (dgl (x) 1 : Nat), .int .u64 (dgl (x) 2 : Nat), .int .u64 (dgl (x) 3 : Nat), .int .u64 (dgl (x) 4 : Nat), .int .u64 (dgl (x) 5 : Nat), .int .u64 (dgl (x) 6 : Nat), .int .u64 (dgl (x) 7 : Nat)] := hL 31 (by decide +kernel)
      have e32 : ρ (.tmp 32) = .agg #[.int .u64 (dgl (9223372036854775808) 0 : Nat), .int .u64 (dgl (9223372036854775808) 1 : Nat), .int .u64 (dgl (9223372036854775808) 2 : Nat), .int .u64 (dgl (9223372036854775808) 3 : Nat), .int .u64 (dgl (9223372036854775808) 4 : Nat), .int .u64 (dgl (9223372036854775808) 5 : Nat), .int .u64 (dgl (9223372036854775808) 6 : Nat), .int .u64 (dgl (9223372036854775808) 7 : Nat)] := hL 32 (by decide +kernel)
      simp [go_sem, hc, hf, e31, e32]
      refine (HCMP.out W).mono ?_
      rintro e w' ⟨rfl, hb⟩
      exact ⟨_, rfl, by first | exact hb | (subst hb; exact Below.refl _ _), rfl⟩
    refine gSt (gStep_run rfl ?_) ?_
    · intro ρ W hC hc hf hL
      have e33 : ρ (.tmp 33) = .int .i64 cm := hL 33 (by decide +kernel)
      have hcm := HCM.out
      simp [go_sem, hc, hf, e33, hcm]
      exact ⟨Below.refl _ _, rfl⟩
    exact gSt0
  · intro W hC
    refine gFi 31 rfl ?_
    rintro _ rfl
    refine gFi 32 rfl ?_
    rintro _ rfl
    refine gFi 33 rfl ?_
    rintro _ rfl
    refine gFi 34 rfl ?_
    rintro _ rfl
    refine gFi0 ?_
    simp only [List.drop_succ_cons, List.drop_zero, Act.put, List.setIfInBounds_toArray, List.set_cons_succ, List.set_cons_zero]
    have hl := hC.1.1
    have HB := hide hC.2
    clear hC h1
    have hd0 := HD0.out
    go_wp2
    exact bodyPost_ret (v := .tuple #[.int .i64 (-(x : Int)), .int .i64 (0)]) (by simp [results, Try.results23, go_sem]) rfl ⟨rfl, HB.out⟩

set_option maxHeartbeats 1000000 in
theorem parseInt_low (s d : ByteArray) (m : Bool) (x : Nat) (hmin : MinusOf s m d) (hm : m = true) (hx : 9223372036854775808 < x) (hxq : x < QQ) (w : World)
    (HPD : Hid (∀ w, Calls Try.prog 15 #[.string d] w fun e w' => e = .returned (.tuple #[.agg #[.int .u64 (dgl (x) 0 : Nat), .int .u64 (dgl (x) 1 : Nat), .int .u64 (dgl (x) 2 : Nat), .int .u64 (dgl (x) 3 : Nat), .int .u64 (dgl (x) 4 : Nat), .int .u64 (dgl (x) 5 : Nat), .int .u64 (dgl (x) 6 : Nat), .int .u64 (dgl (x) 7 : Nat)], .int .i64 0]) ∧ Below w.heap.size w w')) :
    Calls Try.prog 23 #[.string s] w fun e w' => e = .returned (.tuple #[.int .i64 0, .int .i64 4]) ∧ Below w.heap.size w w' := by
  have HCU := hide (fun w => cutPrefix_any s m d hmin w)
  clear hmin
  subst hm
  have hz := fun w => wide_eqz hxq w
  rw [show decide (x = 0) = false from decide_eq_false (by omega)] at hz
  have hq := qq_pow 512 rfl
  have HPW : Hid (∀ w, Calls Try.prog 31 #[.int .i64 63] w fun e w' => e = .returned (.agg #[.int .u64 (dgl (9223372036854775808) 0 : Nat), .int .u64 (dgl (9223372036854775808) 1 : Nat), .int .u64 (dgl (9223372036854775808) 2 : Nat), .int .u64 (dgl (9223372036854775808) 3 : Nat), .int .u64 (dgl (9223372036854775808) 4 : Nat), .int .u64 (dgl (9223372036854775808) 5 : Nat), .int .u64 (dgl (9223372036854775808) 6 : Nat), .int .u64 (dgl (9223372036854775808) 7 : Nat)]) ∧ Below w.heap.size w w') := fun w => power_lt 63 512 hq (by decide) 63 rfl rfl w
  clear hq
  have HCMP := hide (fun w => wideCmp_any x 9223372036854775808 hxq (by unfold QQ; omega) w)
  have HCM := hide (cmp_gt hx)
  generalize cmpN x 9223372036854775808 = cm at *
  clear hx hxq
  go_enter Try.func23, Try.ntmps23
  go_wp2_with (go_at_call 46; refine (HCU.out _).mono ?_; rintro e w' ⟨rfl, hw⟩; subst w')
  refine (HPD.out _).mono ?_
  rintro e w1 ⟨rfl, hb1⟩
  have h1 : LiesF (w1.alloc (.cells #[.int .u64 (dgl (x) 0 : Nat), .int .u64 (dgl (x) 1 : Nat), .int .u64 (dgl (x) 2 : Nat), .int .u64 (dgl (x) 3 : Nat), .int .u64 (dgl (x) 4 : Nat), .int .u64 (dgl (x) 5 : Nat), .int .u64 (dgl (x) 6 : Nat), .int .u64 (dgl (x) 7 : Nat)] 24)) w1.heap.size (dgl x) ∧ Below w.heap.size w (w1.alloc (.cells #[.int .u64 (dgl (x) 0 : Nat), .int .u64 (dgl (x) 1 : Nat), .int .u64 (dgl (x) 2 : Nat), .int .u64 (dgl (x) 3 : Nat), .int .u64 (dgl (x) 4 : Nat), .int .u64 (dgl (x) 5 : Nat), .int .u64 (dgl (x) 6 : Nat), .int .u64 (dgl (x) 7 : Nat)] 24)) := ⟨liesF_new w1 (dgl x) 24, below_trans hb1 (below_allocs w1 _)⟩
  clear hb1
  go_upto_region 8 with fail
  refine wp_gen (fun W => LiesF W w1.heap.size (dgl x) ∧ Below w.heap.size w W) h1 ?_
  clear h1
  rintro W2 h1
  generalize w1.heap.size = p6 at *
  refine wp_region_grow 4 [(31, .val (.agg #[.int .u64 (dgl (x) 0 : Nat), .int .u64 (dgl (x) 1 : Nat), .int .u64 (dgl (x) 2 : Nat), .int .u64 (dgl (x) 3 : Nat), .int .u64 (dgl (x) 4 : Nat), .int .u64 (dgl (x) 5 : Nat), .int .u64 (dgl (x) 6 : Nat), .int .u64 (dgl (x) 7 : Nat)])), (32, .val (.agg #[.int .u64 (dgl (9223372036854775808) 0 : Nat), .int .u64 (dgl (9223372036854775808) 1 : Nat), .int .u64 (dgl (9223372036854775808) 2 : Nat), .int .u64 (dgl (9223372036854775808) 3 : Nat), .int .u64 (dgl (9223372036854775808) 4 : Nat), .int .u64 (dgl (9223372036854775808) 5 : Nat), .int .u64 (dgl (9223372036854775808) 6 : Nat), .int .u64 (dgl (9223372036854775808) 7 : Nat)])), (33, .val (.int .i64 cm)), (34, .val (.bool true))]
    (fun W => LiesF W p6 (dgl x) ∧ Below w.heap.size w W) mixedOk (by kernel_rfl) (by kernel_rfl) (⟨h1.1.below (Below.refl _ _).drew, h1.2.drew⟩) (fun W W' h hb => ⟨h.1.below hb, below_trans h.2 hb⟩) ?_ ?_
  · refine gSt (gStep_run rfl ?_) ?_
    · intro ρ W hC hc hf hL
      have e6 : ρ (.tmp 6) = .pointer (some ⟨p6, 0, none⟩) := hL 6 (by decide +kernel)
      have hl := hC.1.1
      simp [go_sem, hc, hf, e6, hl]
      exact ⟨Below.refl _ _, rfl⟩
    refine gSt (gStep_run rfl ?_) ?_
    · intro ρ W hC hc hf hL
      simp [go_sem, hc, hf]
      refine (HPW.out W).mono ?_
      rintro e w' ⟨rfl, hb⟩
      exact ⟨_, rfl, by first | exact hb | (subst hb; exact Below.refl _ _), rfl⟩
    refine gSt (gStep_run rfl ?_) ?_
    · intro ρ W hC hc hf hL
      have e31 : ρ (.tmp 31) = .agg #[.int .u64 (dgl (x) 0 : Nat), .int .u64 (dgl (x) 1 : Nat), .int .u64 (dgl (x) 2 : Nat), .int .u64 (dgl (x) 3 : Nat), .int .u64 (dgl (x) 4 : Nat), .int .u64 (dgl (x) 5 : Nat), .int .u64 (dgl (x) 6 : Nat), .int .u64 (dgl (x) 7 : Nat)] := hL 31 (by decide +kernel)
      have e32 : ρ (.tmp 32) = .agg #[.int .u64 (dgl (9223372036854775808) 0 : Nat), .int .u64 (dgl (9223372036854775808) 1 : Nat), .int .u64 (dgl (9223372036854775808) 2 : Nat), .int .u64 (dgl (9223372036854775808) 3 : Nat), .int .u64 (dgl (9223372036854775808) 4 : Nat), .int .u64 (dgl (9223372036854775808) 5 : Nat), .int .u64 (dgl (9223372036854775808) 6 : Nat), .int .u64 (dgl (9223372036854775808) 7 : Nat)] := hL 32 (by decide +kernel)
      simp [go_sem, hc, hf, e31, e32]
      refine (HCMP.out W).mono ?_
      rintro e w' ⟨rfl, hb⟩
      exact ⟨_, rfl, by first | exact hb | (subst hb; exact Below.refl _ _), rfl⟩
    refine gSt (gStep_run rfl ?_) ?_
    · intro ρ W hC hc hf hL
      have e33 : ρ (.tmp 33) = .int .i64 cm := hL 33 (by decide +kernel)
      have hcm := HCM.out
      simp [go_sem, hc, hf, e33, hcm]
      exact ⟨Below.refl _ _, rfl⟩
    exact gSt0
  · intro W hC
    refine gFi 31 rfl ?_
    rintro _ rfl
    refine gFi 32 rfl ?_
    rintro _ rfl
    refine gFi 33 rfl ?_
    rintro _ rfl
    refine gFi 34 rfl ?_
    rintro _ rfl
    refine gFi0 ?_
    simp only [List.drop_succ_cons, List.drop_zero, Act.put, List.setIfInBounds_toArray, List.set_cons_succ, List.set_cons_zero]
    have hl := hC.1.1
    have HB := hide hC.2
    clear hC h1
    go_wp2
    exact bodyPost_ret (v := .tuple #[.int .i64 (0), .int .i64 (4)]) (by simp [results, Try.results23, go_sem]) rfl ⟨rfl, HB.out⟩

set_option maxHeartbeats 1000000 in
theorem parseInt_pos (s d : ByteArray) (m : Bool) (x : Nat) (hmin : MinusOf s m d) (hm : m = false) (hx : x ≤ 9223372036854775807) (w : World)
    (HPD : Hid (∀ w, Calls Try.prog 15 #[.string d] w fun e w' => e = .returned (.tuple #[.agg #[.int .u64 (dgl (x) 0 : Nat), .int .u64 (dgl (x) 1 : Nat), .int .u64 (dgl (x) 2 : Nat), .int .u64 (dgl (x) 3 : Nat), .int .u64 (dgl (x) 4 : Nat), .int .u64 (dgl (x) 5 : Nat), .int .u64 (dgl (x) 6 : Nat), .int .u64 (dgl (x) 7 : Nat)], .int .i64 0]) ∧ Below w.heap.size w w')) :
    Calls Try.prog 23 #[.string s] w fun e w' => e = .returned (.tuple #[.int .i64 (x : Nat), .int .i64 0]) ∧ Below w.heap.size w w' := by
  have HCU := hide (fun w => cutPrefix_any s m d hmin w)
  clear hmin
  subst hm
  have hxq : x < QQ := by unfold QQ; omega
  have HOD : Hid (∀ i, i < 8 → dg [9223372036854775807] i = dgl 9223372036854775807 i) := fun i _ => (dig_one (β := 18446744073709551616) (by decide)).2 i
  have HCMP := hide (fun w => wideCmp_any x 9223372036854775807 hxq (by unfold QQ; omega) w)
  have HCM := hide (decide_eq_false (cmp_nle hx))
  generalize cmpN x 9223372036854775807 = cm at *
  have HD0 := hide (dgl_small (show x < 18446744073709551616 by omega))
  have hw2 : IntKind.i64.wrap (x : Int) = (x : Int) := by rw [IntKind.wrap_i64]; omega
  clear hx hxq
  go_enter Try.func23, Try.ntmps23
  go_wp2_with (go_at_call 46; refine (HCU.out _).mono ?_; rintro e w' ⟨rfl, hw⟩; subst w')
  refine (HPD.out _).mono ?_
  rintro e w1 ⟨rfl, hb1⟩
  have h1 : LiesF (w1.alloc (.cells #[.int .u64 (dgl (x) 0 : Nat), .int .u64 (dgl (x) 1 : Nat), .int .u64 (dgl (x) 2 : Nat), .int .u64 (dgl (x) 3 : Nat), .int .u64 (dgl (x) 4 : Nat), .int .u64 (dgl (x) 5 : Nat), .int .u64 (dgl (x) 6 : Nat), .int .u64 (dgl (x) 7 : Nat)] 24)) w1.heap.size (dgl x) ∧ Below w.heap.size w (w1.alloc (.cells #[.int .u64 (dgl (x) 0 : Nat), .int .u64 (dgl (x) 1 : Nat), .int .u64 (dgl (x) 2 : Nat), .int .u64 (dgl (x) 3 : Nat), .int .u64 (dgl (x) 4 : Nat), .int .u64 (dgl (x) 5 : Nat), .int .u64 (dgl (x) 6 : Nat), .int .u64 (dgl (x) 7 : Nat)] 24)) := ⟨liesF_new w1 (dgl x) 24, below_trans hb1 (below_allocs w1 _)⟩
  clear hb1
  go_upto_region 11 with fail
  refine wp_gen (fun W => LiesF W w1.heap.size (dgl x) ∧ Below w.heap.size w W) h1 ?_
  clear h1
  rintro W2 h1
  generalize w1.heap.size = p6 at *
  refine wp_region_grow 6 [(40, .val (.agg #[.int .u64 (dgl (x) 0 : Nat), .int .u64 (dgl (x) 1 : Nat), .int .u64 (dgl (x) 2 : Nat), .int .u64 (dgl (x) 3 : Nat), .int .u64 (dgl (x) 4 : Nat), .int .u64 (dgl (x) 5 : Nat), .int .u64 (dgl (x) 6 : Nat), .int .u64 (dgl (x) 7 : Nat)])), (41, .rd [9223372036854775807]), (42, .val (.agg #[.int .u64 (dgl (9223372036854775807) 0 : Nat), .int .u64 (dgl (9223372036854775807) 1 : Nat), .int .u64 (dgl (9223372036854775807) 2 : Nat), .int .u64 (dgl (9223372036854775807) 3 : Nat), .int .u64 (dgl (9223372036854775807) 4 : Nat), .int .u64 (dgl (9223372036854775807) 5 : Nat), .int .u64 (dgl (9223372036854775807) 6 : Nat), .int .u64 (dgl (9223372036854775807) 7 : Nat)])), (43, .val (.int .i64 cm)), (44, .val (.bool false)), (39, .val (.bool false))]
    (fun W => LiesF W p6 (dgl x) ∧ Below w.heap.size w W) mixedOk (by kernel_rfl) (by kernel_rfl) (⟨h1.1.below (Below.refl _ _).drew, h1.2.drew⟩) (fun W W' h hb => ⟨h.1.below hb, below_trans h.2 hb⟩) ?_ ?_
  · refine gSt (gStep_run rfl ?_) ?_
    · intro ρ W hC hc hf hL
      have e6 : ρ (.tmp 6) = .pointer (some ⟨p6, 0, none⟩) := hL 6 (by decide +kernel)
      have hl := hC.1.1
      simp [go_sem, hc, hf, e6, hl]
      exact ⟨Below.refl _ _, rfl⟩
    refine gSt (gStep_run rfl ?_) ?_
    · intro ρ W hC hc hf hL
      simp [go_sem, hc, hf]
      exact ⟨below_allocs _ _, Rd.lit (mk := mk64) W 22 [.int .u64 (9223372036854775807 : Nat)] [9223372036854775807] rfl 1 (Nat.le_refl 1) (by decide)⟩
    refine gSt (gStep_run rfl ?_) ?_
    · intro ρ W hC hc hf hL
      have b41 := hL 41 (by decide +kernel)
      simp [go_sem, hc, hf]
      refine (wideOf_any [9223372036854775807] 9223372036854775807 _ _ b41 HOD.out).mono ?_
      rintro e w' ⟨rfl, hb⟩
      exact ⟨_, rfl, by first | exact hb | (subst hb; exact Below.refl _ _), rfl⟩
    refine gSt (gStep_run rfl ?_) ?_
    · intro ρ W hC hc hf hL
      have e40 : ρ (.tmp 40) = .agg #[.int .u64 (dgl (x) 0 : Nat), .int .u64 (dgl (x) 1 : Nat), .int .u64 (dgl (x) 2 : Nat), .int .u64 (dgl (x) 3 : Nat), .int .u64 (dgl (x) 4 : Nat), .int .u64 (dgl (x) 5 : Nat), .int .u64 (dgl (x) 6 : Nat), .int .u64 (dgl (x) 7 : Nat)] := hL 40 (by decide +kernel)
      have e42 : ρ (.tmp 42) = .agg #[.int .u64 (dgl (9223372036854775807) 0 : Nat), .int .u64 (dgl (9223372036854775807) 1 : Nat), .int .u64 (dgl (9223372036854775807) 2 : Nat), .int .u64 (dgl (9223372036854775807) 3 : Nat), .int .u64 (dgl (9223372036854775807) 4 : Nat), .int .u64 (dgl (9223372036854775807) 5 : Nat), .int .u64 (dgl (9223372036854775807) 6 : Nat), .int .u64 (dgl (9223372036854775807) 7 : Nat)] := hL 42 (by decide +kernel)
      simp [go_sem, hc, hf, e40, e42]
      refine (HCMP.out W).mono ?_
      rintro e w' ⟨rfl, hb⟩
      exact ⟨_, rfl, by first | exact hb | (subst hb; exact Below.refl _ _), rfl⟩
    refine gSt (gStep_run rfl ?_) ?_
    · intro ρ W hC hc hf hL
      have e43 : ρ (.tmp 43) = .int .i64 cm := hL 43 (by decide +kernel)
      have hcm := HCM.out
      simp [go_sem, hc, hf, e43, hcm]
      exact ⟨Below.refl _ _, rfl⟩
    refine gSt (gStep_run rfl (gRun_move 44 39 (.inr rfl) rfl (by decide +kernel) (fun v w h => h))) ?_
    exact gSt0
  · intro W hC
    refine gFi 40 rfl ?_
    rintro _ rfl
    refine gFi 41 rfl ?_
    rintro u41 b41
    refine gFi 42 rfl ?_
    rintro _ rfl
    refine gFi 43 rfl ?_
    rintro _ rfl
    refine gFi 44 rfl ?_
    rintro _ rfl
    refine gFi 39 rfl ?_
    rintro _ rfl
    refine gFi0 ?_
    simp only [List.drop_succ_cons, List.drop_zero, Act.put, List.setIfInBounds_toArray, List.set_cons_succ, List.set_cons_zero]
    have hl := hC.1.1
    have HB := hide hC.2
    clear hC h1
    have hd0 := HD0.out
    go_wp2
    exact bodyPost_ret (v := .tuple #[.int .i64 ((x : Nat)), .int .i64 (0)]) (by simp [results, Try.results23, go_sem]) rfl ⟨rfl, HB.out⟩

set_option maxHeartbeats 1000000 in
theorem parseInt_high (s d : ByteArray) (m : Bool) (x : Nat) (hmin : MinusOf s m d) (hm : m = false) (hx : 9223372036854775807 < x) (hxq : x < QQ) (w : World)
    (HPD : Hid (∀ w, Calls Try.prog 15 #[.string d] w fun e w' => e = .returned (.tuple #[.agg #[.int .u64 (dgl (x) 0 : Nat), .int .u64 (dgl (x) 1 : Nat), .int .u64 (dgl (x) 2 : Nat), .int .u64 (dgl (x) 3 : Nat), .int .u64 (dgl (x) 4 : Nat), .int .u64 (dgl (x) 5 : Nat), .int .u64 (dgl (x) 6 : Nat), .int .u64 (dgl (x) 7 : Nat)], .int .i64 0]) ∧ Below w.heap.size w w')) :
    Calls Try.prog 23 #[.string s] w fun e w' => e = .returned (.tuple #[.int .i64 0, .int .i64 4]) ∧ Below w.heap.size w w' := by
  have HCU := hide (fun w => cutPrefix_any s m d hmin w)
  clear hmin
  subst hm
  have HOD : Hid (∀ i, i < 8 → dg [9223372036854775807] i = dgl 9223372036854775807 i) := fun i _ => (dig_one (β := 18446744073709551616) (by decide)).2 i
  have HCMP := hide (fun w => wideCmp_any x 9223372036854775807 hxq (by unfold QQ; omega) w)
  have HCM := hide (cmp_gt hx)
  generalize cmpN x 9223372036854775807 = cm at *
  clear hx hxq
  go_enter Try.func23, Try.ntmps23
  go_wp2_with (go_at_call 46; refine (HCU.out _).mono ?_; rintro e w' ⟨rfl, hw⟩; subst w')
  refine (HPD.out _).mono ?_
  rintro e w1 ⟨rfl, hb1⟩
  have h1 : LiesF (w1.alloc (.cells #[.int .u64 (dgl (x) 0 : Nat), .int .u64 (dgl (x) 1 : Nat), .int .u64 (dgl (x) 2 : Nat), .int .u64 (dgl (x) 3 : Nat), .int .u64 (dgl (x) 4 : Nat), .int .u64 (dgl (x) 5 : Nat), .int .u64 (dgl (x) 6 : Nat), .int .u64 (dgl (x) 7 : Nat)] 24)) w1.heap.size (dgl x) ∧ Below w.heap.size w (w1.alloc (.cells #[.int .u64 (dgl (x) 0 : Nat), .int .u64 (dgl (x) 1 : Nat), .int .u64 (dgl (x) 2 : Nat), .int .u64 (dgl (x) 3 : Nat), .int .u64 (dgl (x) 4 : Nat), .int .u64 (dgl (x) 5 : Nat), .int .u64 (dgl (x) 6 : Nat), .int .u64 (dgl (x) 7 : Nat)] 24)) := ⟨liesF_new w1 (dgl x) 24, below_trans hb1 (below_allocs w1 _)⟩
  clear hb1
  go_upto_region 11 with fail
  refine wp_gen (fun W => LiesF W w1.heap.size (dgl x) ∧ Below w.heap.size w W) h1 ?_
  clear h1
  rintro W2 h1
  generalize w1.heap.size = p6 at *
  refine wp_region_grow 6 [(40, .val (.agg #[.int .u64 (dgl (x) 0 : Nat), .int .u64 (dgl (x) 1 : Nat), .int .u64 (dgl (x) 2 : Nat), .int .u64 (dgl (x) 3 : Nat), .int .u64 (dgl (x) 4 : Nat), .int .u64 (dgl (x) 5 : Nat), .int .u64 (dgl (x) 6 : Nat), .int .u64 (dgl (x) 7 : Nat)])), (41, .rd [9223372036854775807]), (42, .val (.agg #[.int .u64 (dgl (9223372036854775807) 0 : Nat), .int .u64 (dgl (9223372036854775807) 1 : Nat), .int .u64 (dgl (9223372036854775807) 2 : Nat), .int .u64 (dgl (9223372036854775807) 3 : Nat), .int .u64 (dgl (9223372036854775807) 4 : Nat), .int .u64 (dgl (9223372036854775807) 5 : Nat), .int .u64 (dgl (9223372036854775807) 6 : Nat), .int .u64 (dgl (9223372036854775807) 7 : Nat)])), (43, .val (.int .i64 cm)), (44, .val (.bool true)), (39, .val (.bool true))]
    (fun W => LiesF W p6 (dgl x) ∧ Below w.heap.size w W) mixedOk (by kernel_rfl) (by kernel_rfl) (⟨h1.1.below (Below.refl _ _).drew, h1.2.drew⟩) (fun W W' h hb => ⟨h.1.below hb, below_trans h.2 hb⟩) ?_ ?_
  · refine gSt (gStep_run rfl ?_) ?_
    · intro ρ W hC hc hf hL
      have e6 : ρ (.tmp 6) = .pointer (some ⟨p6, 0, none⟩) := hL 6 (by decide +kernel)
      have hl := hC.1.1
      simp [go_sem, hc, hf, e6, hl]
      exact ⟨Below.refl _ _, rfl⟩
    refine gSt (gStep_run rfl ?_) ?_
    · intro ρ W hC hc hf hL
      simp [go_sem, hc, hf]
      exact ⟨below_allocs _ _, Rd.lit (mk := mk64) W 22 [.int .u64 (9223372036854775807 : Nat)] [9223372036854775807] rfl 1 (Nat.le_refl 1) (by decide)⟩
    refine gSt (gStep_run rfl ?_) ?_
    · intro ρ W hC hc hf hL
      have b41 := hL 41 (by decide +kernel)
      simp [go_sem, hc, hf]
      refine (wideOf_any [9223372036854775807] 9223372036854775807 _ _ b41 HOD.out).mono ?_
      rintro e w' ⟨rfl, hb⟩
      exact ⟨_, rfl, by first | exact hb | (subst hb; exact Below.refl _ _), rfl⟩
    refine gSt (gStep_run rfl ?_) ?_
    · intro ρ W hC hc hf hL
      have e40 : ρ (.tmp 40) = .agg #[.int .u64 (dgl (x) 0 : Nat), .int .u64 (dgl (x) 1 : Nat), .int .u64 (dgl (x) 2 : Nat), .int .u64 (dgl (x) 3 : Nat), .int .u64 (dgl (x) 4 : Nat), .int .u64 (dgl (x) 5 : Nat), .int .u64 (dgl (x) 6 : Nat), .int .u64 (dgl (x) 7 : Nat)] := hL 40 (by decide +kernel)
      have e42 : ρ (.tmp 42) = .agg #[.int .u64 (dgl (9223372036854775807) 0 : Nat), .int .u64 (dgl (9223372036854775807) 1 : Nat), .int .u64 (dgl (9223372036854775807) 2 : Nat), .int .u64 (dgl (9223372036854775807) 3 : Nat), .int .u64 (dgl (9223372036854775807) 4 : Nat), .int .u64 (dgl (9223372036854775807) 5 : Nat), .int .u64 (dgl (9223372036854775807) 6 : Nat), .int .u64 (dgl (9223372036854775807) 7 : Nat)] := hL 42 (by decide +kernel)
      simp [go_sem, hc, hf, e40, e42]
      refine (HCMP.out W).mono ?_
      rintro e w' ⟨rfl, hb⟩
      exact ⟨_, rfl, by first | exact hb | (subst hb; exact Below.refl _ _), rfl⟩
    refine gSt (gStep_run rfl ?_) ?_
    · intro ρ W hC hc hf hL
      have e43 : ρ (.tmp 43) = .int .i64 cm := hL 43 (by decide +kernel)
      have hcm := HCM.out
      simp [go_sem, hc, hf, e43, hcm]
      exact ⟨Below.refl _ _, rfl⟩
    refine gSt (gStep_run rfl (gRun_move 44 39 (.inr rfl) rfl (by decide +kernel) (fun v w h => h))) ?_
    exact gSt0
  · intro W hC
    refine gFi 40 rfl ?_
    rintro _ rfl
    refine gFi 41 rfl ?_
    rintro u41 b41
    refine gFi 42 rfl ?_
    rintro _ rfl
    refine gFi 43 rfl ?_
    rintro _ rfl
    refine gFi 44 rfl ?_
    rintro _ rfl
    refine gFi 39 rfl ?_
    rintro _ rfl
    refine gFi0 ?_
    simp only [List.drop_succ_cons, List.drop_zero, Act.put, List.setIfInBounds_toArray, List.set_cons_succ, List.set_cons_zero]
    have hl := hC.1.1
    have HB := hide hC.2
    clear hC h1
    go_wp2
    exact bodyPost_ret (v := .tuple #[.int .i64 (0), .int .i64 (4)]) (by simp [results, Try.results23, go_sem]) rfl ⟨rfl, HB.out⟩

end Go.Proofs.Ytjklehlkgccmnaa

