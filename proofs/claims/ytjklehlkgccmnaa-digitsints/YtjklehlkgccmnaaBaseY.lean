/- Contracts and laws: DigT, DigU. -/
import Derived.Test.YtjklehlkgccmnaaBaseX
/- Contracts: radicandref04.Int. -/
set_option linter.unusedVariables false
set_option linter.unusedSimpArgs false
set_option maxRecDepth 8000
namespace Go.Proofs.Ytjklehlkgccmnaa
open Go.RowKit Plain

theorem bitLen_le63 {x : Nat} (h : x ≤ 9223372036854775807) : Go.bitLen x ≤ 63 :=
  pow_inj_len (β := 2) (a := 63) (b := Go.bitLen x) (by decide) (show x < 9223372036854775808 by omega) (by
    by_cases h0 : x = 0
    · exact .inl (by rw [h0]; rfl)
    · exact .inr ((bitLen_spec x).2 h0))
theorem bitLen_gt63 {x : Nat} (h : 9223372036854775807 < x) : 63 < Go.bitLen x := by
  have h1 := (bitLen_spec x).1
  rcases Nat.lt_or_ge 63 (Go.bitLen x) with h2 | h2
  · exact h2
  · have h3 : 2 ^ Go.bitLen x ≤ 2 ^ 63 := Nat.pow_le_pow_right (by decide) h2
    have h4 : (2 : Nat) ^ 63 = 9223372036854775808 := by decide
    omega
theorem minus_size {s d : ByteArray} {m : Bool} {K : Nat} (h : MinusOf s m d) (hs : s.size ≤ K) : d.size ≤ K := by
  rcases h with ⟨_, h1, _, rfl⟩ | ⟨_, _, rfl⟩
  · have : (s.extract 1 s.size).size = s.size - 1 := by simp
    omega
  · exact hs

set_option maxHeartbeats 1000000 in
theorem refInt_bad_t (s d : ByteArray) (hs : s.size ≤ 1000) (hmin : MinusOf s true d) (hp : ¬ plainN 10 d) (w : World) :
    Calls Try.prog 24 #[.string s] w fun e w' => e = .returned (.tuple #[.int .i64 0, .int .i64 2]) ∧ Below w.heap.size w w' := by
  have hs' : (s.size : Int) ≤ 1000 := by omega
  have hE := empty_iff s
  have hds : d.size ≤ 1000 := minus_size hmin hs
  have hds' : (d.size : Int) ≤ 1000 := by omega
  have HPL : Hid (∀ w, Calls Try.prog 36 #[.string d, .int .i64 10] w fun e w' => e = .returned (.bool false) ∧ w' = w) := fun w => ref4Plain_any d 10 (by decide) (by decide) (by omega) false (show Hid _ from ⟨fun h => Bool.noConfusion h, fun h => absurd h hp⟩) w
  rcases hmin with ⟨_, hsz, hb, hd0⟩ | ⟨h, _⟩
  · have hd := hd0.symm
    have h45 : (((s[0]'hsz).toNat : Int) == 45) = true := by rw [byte_at s 0 hsz, hb]; rfl
    rw [decide_eq_false (by omega)] at hE
    clear hd0 hb
    go_enter Try.func24, Try.ntmps24
    go_wp2_with (go_at_call 36; refine (HPL.out _).mono ?_; rintro e w' ⟨rfl, hw⟩; subst w')
    exact bodyPost_ret (v := .tuple #[.int .i64 (0), .int .i64 (2)]) (by simp [results, Try.results24, go_sem]) rfl ⟨rfl, Below.refl _ _⟩
  · exact absurd h (by decide)

set_option maxHeartbeats 1000000 in
theorem refInt_bad_f (s d : ByteArray) (hs : s.size ≤ 1000) (hmin : MinusOf s false d) (hp : ¬ plainN 10 d) (w : World) :
    Calls Try.prog 24 #[.string s] w fun e w' => e = .returned (.tuple #[.int .i64 0, .int .i64 2]) ∧ Below w.heap.size w w' := by
  have hs' : (s.size : Int) ≤ 1000 := by omega
  have hE := empty_iff s
  have hds : d.size ≤ 1000 := minus_size hmin hs
  have hds' : (d.size : Int) ≤ 1000 := by omega
  have HPL : Hid (∀ w, Calls Try.prog 36 #[.string d, .int .i64 10] w fun e w' => e = .returned (.bool false) ∧ w' = w) := fun w => ref4Plain_any d 10 (by decide) (by decide) (by omega) false (show Hid _ from ⟨fun h => Bool.noConfusion h, fun h => absurd h hp⟩) w
  rcases hmin with ⟨h, _⟩ | ⟨_, h, rfl⟩
  · exact absurd h (by decide)
  · by_cases h0 : d.size = 0
    · rw [decide_eq_true h0] at hE
      clear h
      go_enter Try.func24, Try.ntmps24
      go_wp2_with (go_at_call 36; refine (HPL.out _).mono ?_; rintro e w' ⟨rfl, hw⟩; subst w')
      exact bodyPost_ret (v := .tuple #[.int .i64 (0), .int .i64 (2)]) (by simp [results, Try.results24, go_sem]) rfl ⟨rfl, Below.refl _ _⟩
    · have hsz : 0 < d.size := by omega
      have h45 : (((d[0]'hsz).toNat : Int) == 45) = false := by
        rw [byte_at d 0 hsz, beq_eq_false_iff_ne]
        rcases h with h | h <;> omega
      rw [decide_eq_false h0] at hE
      clear h h0
      go_enter Try.func24, Try.ntmps24
      go_wp2_with (go_at_call 36; refine (HPL.out _).mono ?_; rintro e w' ⟨rfl, hw⟩; subst w')
      exact bodyPost_ret (v := .tuple #[.int .i64 (0), .int .i64 (2)]) (by simp [results, Try.results24, go_sem]) rfl ⟨rfl, Below.refl _ _⟩

set_option maxHeartbeats 1000000 in
theorem refInt_nil (s d : ByteArray) (hs : s.size ≤ 1000) (hmin : MinusOf s true d) (hp : plainN 10 d) (hdz : d = ⟨#[48]⟩) (w : World) :
    Calls Try.prog 24 #[.string s] w fun e w' => e = .returned (.tuple #[.int .i64 0, .int .i64 2]) ∧ Below w.heap.size w w' := by
  have hs' : (s.size : Int) ≤ 1000 := by omega
  have hE := empty_iff s
  have hds : d.size ≤ 1000 := minus_size hmin hs
  have hds' : (d.size : Int) ≤ 1000 := by omega
  have HPZ := hide hp.1
  have HPL : Hid (∀ w, Calls Try.prog 36 #[.string d, .int .i64 10] w fun e w' => e = .returned (.bool true) ∧ w' = w) := fun w => ref4Plain_any d 10 (by decide) (by decide) (by omega) true (show Hid _ from ⟨fun _ => hp, fun _ => rfl⟩) w
  subst hdz
  rcases hmin with ⟨_, hsz, hb, hd0⟩ | ⟨h, _⟩
  · have hd := hd0.symm
    have h45 : (((s[0]'hsz).toNat : Int) == 45) = true := by rw [byte_at s 0 hsz, hb]; rfl
    rw [decide_eq_false (by omega)] at hE
    clear hd0 hb
    go_enter Try.func24, Try.ntmps24
    go_wp2_with (go_at_call 36; refine (HPL.out _).mono ?_; rintro e w' ⟨rfl, hw⟩; subst w')
    exact bodyPost_ret (v := .tuple #[.int .i64 (0), .int .i64 (2)]) (by simp [results, Try.results24, go_sem]) rfl ⟨rfl, Below.refl _ _⟩
  · exact absurd h (by decide)

set_option maxHeartbeats 1000000 in
theorem refInt_long_t (s d : ByteArray) (hs : s.size ≤ 1000) (hmin : MinusOf s true d) (hp : plainN 10 d) (hdz : (d.toList == [48]) = false) (hlong : 30 < d.size) (w : World) :
    Calls Try.prog 24 #[.string s] w fun e w' => e = .returned (.tuple #[.int .i64 0, .int .i64 4]) ∧ Below w.heap.size w w' := by
  have hs' : (s.size : Int) ≤ 1000 := by omega
  have hE := empty_iff s
  have hds : d.size ≤ 1000 := minus_size hmin hs
  have hds' : (d.size : Int) ≤ 1000 := by omega
  have HPZ := hide hp.1
  have HPL : Hid (∀ w, Calls Try.prog 36 #[.string d, .int .i64 10] w fun e w' => e = .returned (.bool true) ∧ w' = w) := fun w => ref4Plain_any d 10 (by decide) (by decide) (by omega) true (show Hid _ from ⟨fun _ => hp, fun _ => rfl⟩) w
  have hl30 : (30 : Int) < (d.size : Int) := by omega
  clear hp
  rcases hmin with ⟨_, hsz, hb, hd0⟩ | ⟨h, _⟩
  · have hd := hd0.symm
    have h45 : (((s[0]'hsz).toNat : Int) == 45) = true := by rw [byte_at s 0 hsz, hb]; rfl
    rw [decide_eq_false (by omega)] at hE
    clear hd0 hb
    go_enter Try.func24, Try.ntmps24
    go_wp2_with (go_at_call 36; refine (HPL.out _).mono ?_; rintro e w' ⟨rfl, hw⟩; subst w')
    exact bodyPost_ret (v := .tuple #[.int .i64 (0), .int .i64 (4)]) (by simp [results, Try.results24, go_sem]) rfl ⟨rfl, Below.refl _ _⟩
  · exact absurd h (by decide)

set_option maxHeartbeats 1000000 in
theorem refInt_long_f (s d : ByteArray) (hs : s.size ≤ 1000) (hmin : MinusOf s false d) (hp : plainN 10 d) (hlong : 30 < d.size) (w : World) :
    Calls Try.prog 24 #[.string s] w fun e w' => e = .returned (.tuple #[.int .i64 0, .int .i64 4]) ∧ Below w.heap.size w w' := by
  have hs' : (s.size : Int) ≤ 1000 := by omega
  have hE := empty_iff s
  have hds : d.size ≤ 1000 := minus_size hmin hs
  have hds' : (d.size : Int) ≤ 1000 := by omega
  have HPZ := hide hp.1
  have HPL : Hid (∀ w, Calls Try.prog 36 #[.string d, .int .i64 10] w fun e w' => e = .returned (.bool true) ∧ w' = w) := fun w => ref4Plain_any d 10 (by decide) (by decide) (by omega) true (show Hid _ from ⟨fun _ => hp, fun _ => rfl⟩) w
  have hl30 : (30 : Int) < (d.size : Int) := by omega
  clear hp
  rcases hmin with ⟨h, _⟩ | ⟨_, h, rfl⟩
  · exact absurd h (by decide)
  · by_cases h0 : d.size = 0
    · rw [decide_eq_true h0] at hE
      clear h
      exfalso
      have := HPZ.out
      omega
    · have hsz : 0 < d.size := by omega
      have h45 : (((d[0]'hsz).toNat : Int) == 45) = false := by
        rw [byte_at d 0 hsz, beq_eq_false_iff_ne]
        rcases h with h | h <;> omega
      rw [decide_eq_false h0] at hE
      clear h h0
      go_enter Try.func24, Try.ntmps24
      go_wp2_with (go_at_call 36; refine (HPL.out _).mono ?_; rintro e w' ⟨rfl, hw⟩; subst w')
      exact bodyPost_ret (v := .tuple #[.int .i64 (0), .int .i64 (4)]) (by simp [results, Try.results24, go_sem]) rfl ⟨rfl, Below.refl _ _⟩

set_option maxHeartbeats 1000000 in
theorem refInt_pos (s d : ByteArray) (hs : s.size ≤ 1000) (hmin : MinusOf s false d) (hp : plainN 10 d) (hshort : d.size ≤ 30) (x : Nat) (hxq : x < QQ) (hT : Told (plainN 10 d) 10 d x 0) (hx : x ≤ 9223372036854775807) (w : World) :
    Calls Try.prog 24 #[.string s] w fun e w' => e = .returned (.tuple #[.int .i64 (x : Nat), .int .i64 0]) ∧ Below w.heap.size w w' := by
  have hs' : (s.size : Int) ≤ 1000 := by omega
  have hE := empty_iff s
  have hds : d.size ≤ 1000 := minus_size hmin hs
  have hds' : (d.size : Int) ≤ 1000 := by omega
  have HPZ := hide hp.1
  have HPL : Hid (∀ w, Calls Try.prog 36 #[.string d, .int .i64 10] w fun e w' => e = .returned (.bool true) ∧ w' = w) := fun w => ref4Plain_any d 10 (by decide) (by decide) (by omega) true (show Hid _ from ⟨fun _ => hp, fun _ => rfl⟩) w
  have HRD : Hid (∀ w, Calls Try.prog 14 #[.string d, .int .i64 10] w fun e w' => e = .returned (.tuple #[.agg #[.int .u64 (dgl (x) 0 : Nat), .int .u64 (dgl (x) 1 : Nat), .int .u64 (dgl (x) 2 : Nat), .int .u64 (dgl (x) 3 : Nat), .int .u64 (dgl (x) 4 : Nat), .int .u64 (dgl (x) 5 : Nat), .int .u64 (dgl (x) 6 : Nat), .int .u64 (dgl (x) 7 : Nat)], .int .i64 0]) ∧ Below w.heap.size w w') := fun w => ref4Read_any d 10 x 0 (by decide) (by decide) (by omega) hT w
  have HBG := hide (fun w => refBig_any x hxq w)
  have hl30 : ¬ (30 : Int) < (d.size : Int) := by omega
  have HLN := hide (fun v w h => refLen_any x 40 v w h (by decide))
  have hbl := bitLen_le63 hx
  have hbl' : (Go.bitLen x : Int) ≤ 63 := by omega
  have HD0 := hide (dgl_small (show x < 18446744073709551616 by omega))
  have hxi : (x : Int) ≤ 9223372036854775807 := by omega
  generalize Go.bitLen x = bl at *
  have HBL := hide (Below.refl w.heap.size w)
  clear hp hT hxq
  rcases hmin with ⟨h, _⟩ | ⟨_, h, rfl⟩
  · exact absurd h (by decide)
  · by_cases h0 : d.size = 0
    · rw [decide_eq_true h0] at hE
      clear h
      exfalso
      have := HPZ.out
      omega
    · have hsz : 0 < d.size := by omega
      have h45 : (((d[0]'hsz).toNat : Int) == 45) = false := by
        rw [byte_at d 0 hsz, beq_eq_false_iff_ne]
        rcases h with h | h <;> omega
      rw [decide_eq_false h0] at hE
      clear h h0
      go_enter Try.func24, Try.ntmps24
      go_wp2_with (go_at_call 36; refine (HPL.out _).mono ?_; rintro e w' ⟨rfl, hw⟩; subst w')
      refine (HRD.out _).mono ?_
      rintro e w1 ⟨rfl, hb1⟩
      replace HBL := hide (below_trans HBL.out hb1)
      clear hb1
      go_upto_region 9 with fail
      refine wp_gen (fun W => Below w.heap.size w W ∧ LiesF W w1.heap.size (dgl x)) ⟨below_trans HBL.out (below_allocs _ _), liesF_new _ _ _⟩ ?_
      rintro W1 ⟨gHBL, gH6⟩
      generalize w1.heap.size = p6 at *
      replace HBL := hide gHBL
      have H6 := hide gH6
      clear gHBL gH6
      have hcH6 := H6.out.1
      go_wp2_with fail
      refine (HBG.out _).mono ?_
      rintro e w2 ⟨v2, rfl, hv2, hb2⟩
      replace HBL := hide (below_trans HBL.out hb2)
      replace H6 := hide (H6.out.below hb2)
      have HV := hide hv2
      clear hv2
      clear hcH6
      clear hb2
      go_wp2_with fail
      refine (HLN.out _ _ HV.out).mono ?_
      rintro e w3 ⟨rfl, hb3⟩
      subst hb3
      have hc6 := H6.out.1
      have hd0 := HD0.out
      go_wp2
      exact bodyPost_ret (v := .tuple #[.int .i64 ((x : Nat)), .int .i64 (0)]) (by simp [results, Try.results24, go_sem]) rfl ⟨rfl, HBL.out⟩

set_option maxHeartbeats 1000000 in
theorem refInt_high (s d : ByteArray) (hs : s.size ≤ 1000) (hmin : MinusOf s false d) (hp : plainN 10 d) (hshort : d.size ≤ 30) (x : Nat) (hxq : x < QQ) (hT : Told (plainN 10 d) 10 d x 0) (hx : 9223372036854775807 < x) (w : World) :
    Calls Try.prog 24 #[.string s] w fun e w' => e = .returned (.tuple #[.int .i64 0, .int .i64 4]) ∧ Below w.heap.size w w' := by
  have hs' : (s.size : Int) ≤ 1000 := by omega
  have hE := empty_iff s
  have hds : d.size ≤ 1000 := minus_size hmin hs
  have hds' : (d.size : Int) ≤ 1000 := by omega
  have HPZ := hide hp.1
  have HPL : Hid (∀ w, Calls Try.prog 36 #[.string d, .int .i64 10] w fun e w' => e = .returned (.bool true) ∧ w' = w) := fun w => ref4Plain_any d 10 (by decide) (by decide) (by omega) true (show Hid _ from ⟨fun _ => hp, fun _ => rfl⟩) w
  have HRD : Hid (∀ w, Calls Try.prog 14 #[.string d, .int .i64 10] w fun e w' => e = .returned (.tuple #[.agg #[.int .u64 (dgl (x) 0 : Nat), .int .u64 (dgl (x) 1 : Nat), .int .u64 (dgl (x) 2 : Nat), .int .u64 (dgl (x) 3 : Nat), .int .u64 (dgl (x) 4 : Nat), .int .u64 (dgl (x) 5 : Nat), .int .u64 (dgl (x) 6 : Nat), .int .u64 (dgl (x) 7 : Nat)], .int .i64 0]) ∧ Below w.heap.size w w') := fun w => ref4Read_any d 10 x 0 (by decide) (by decide) (by omega) hT w
  have HBG := hide (fun w => refBig_any x hxq w)
  have hl30 : ¬ (30 : Int) < (d.size : Int) := by omega
  have HLN := hide (fun v w h => refLen_any x 40 v w h (by decide))
  have hbl := bitLen_gt63 hx
  have hbl' : ¬ (Go.bitLen x : Int) ≤ 63 := by omega
  generalize Go.bitLen x = bl at *
  have HBL := hide (Below.refl w.heap.size w)
  clear hp hT hxq
  rcases hmin with ⟨h, _⟩ | ⟨_, h, rfl⟩
  · exact absurd h (by decide)
  · by_cases h0 : d.size = 0
    · rw [decide_eq_true h0] at hE
      clear h
      exfalso
      have := HPZ.out
      omega
    · have hsz : 0 < d.size := by omega
      have h45 : (((d[0]'hsz).toNat : Int) == 45) = false := by
        rw [byte_at d 0 hsz, beq_eq_false_iff_ne]
        rcases h with h | h <;> omega
      rw [decide_eq_false h0] at hE
      clear h h0
      go_enter Try.func24, Try.ntmps24
      go_wp2_with (go_at_call 36; refine (HPL.out _).mono ?_; rintro e w' ⟨rfl, hw⟩; subst w')
      refine (HRD.out _).mono ?_
      rintro e w1 ⟨rfl, hb1⟩
      replace HBL := hide (below_trans HBL.out hb1)
      clear hb1
      go_upto_region 9 with fail
      refine wp_gen (fun W => Below w.heap.size w W ∧ LiesF W w1.heap.size (dgl x)) ⟨below_trans HBL.out (below_allocs _ _), liesF_new _ _ _⟩ ?_
      rintro W1 ⟨gHBL, gH6⟩
      generalize w1.heap.size = p6 at *
      replace HBL := hide gHBL
      have H6 := hide gH6
      clear gHBL gH6
      have hcH6 := H6.out.1
      go_wp2_with fail
      refine (HBG.out _).mono ?_
      rintro e w2 ⟨v2, rfl, hv2, hb2⟩
      replace HBL := hide (below_trans HBL.out hb2)
      replace H6 := hide (H6.out.below hb2)
      have HV := hide hv2
      clear hv2
      clear hcH6
      clear hb2
      go_wp2_with fail
      refine (HLN.out _ _ HV.out).mono ?_
      rintro e w3 ⟨rfl, hb3⟩
      subst hb3
      have hc6 := H6.out.1
      go_wp2
      exact bodyPost_ret (v := .tuple #[.int .i64 (0), .int .i64 (4)]) (by simp [results, Try.results24, go_sem]) rfl ⟨rfl, HBL.out⟩

set_option maxHeartbeats 1000000 in
theorem refInt_neg (s d : ByteArray) (hs : s.size ≤ 1000) (hmin : MinusOf s true d) (hp : plainN 10 d) (hshort : d.size ≤ 30) (x : Nat) (hxq : x < QQ) (hT : Told (plainN 10 d) 10 d x 0) (hdz : (d.toList == [48]) = false) (hx0 : 0 < x) (hx : x ≤ 9223372036854775808) (w : World) :
    Calls Try.prog 24 #[.string s] w fun e w' => e = .returned (.tuple #[.int .i64 (-(x : Int)), .int .i64 0]) ∧ Below w.heap.size w w' := by
  have hs' : (s.size : Int) ≤ 1000 := by omega
  have hE := empty_iff s
  have hds : d.size ≤ 1000 := minus_size hmin hs
  have hds' : (d.size : Int) ≤ 1000 := by omega
  have HPZ := hide hp.1
  have HPL : Hid (∀ w, Calls Try.prog 36 #[.string d, .int .i64 10] w fun e w' => e = .returned (.bool true) ∧ w' = w) := fun w => ref4Plain_any d 10 (by decide) (by decide) (by omega) true (show Hid _ from ⟨fun _ => hp, fun _ => rfl⟩) w
  have HRD : Hid (∀ w, Calls Try.prog 14 #[.string d, .int .i64 10] w fun e w' => e = .returned (.tuple #[.agg #[.int .u64 (dgl (x) 0 : Nat), .int .u64 (dgl (x) 1 : Nat), .int .u64 (dgl (x) 2 : Nat), .int .u64 (dgl (x) 3 : Nat), .int .u64 (dgl (x) 4 : Nat), .int .u64 (dgl (x) 5 : Nat), .int .u64 (dgl (x) 6 : Nat), .int .u64 (dgl (x) 7 : Nat)], .int .i64 0]) ∧ Below w.heap.size w w') := fun w => ref4Read_any d 10 x 0 (by decide) (by decide) (by omega) hT w
  have HBG := hide (fun w => refBig_any x hxq w)
  have hl30 : ¬ (30 : Int) < (d.size : Int) := by omega
  have HPW := hide (fun w => refPower_any 63 9223372036854775808 (by decide) (by decide) w)
  have HCP := hide (fun v u w hv hu => cmp_any x 9223372036854775808 40 4 v u w hv hu)
  have hcm := cmp_nle hx
  generalize cmpN x 9223372036854775808 = cm at *
  have HD0 := hide (dgl_small (show x < 18446744073709551616 by omega))
  have hxi : (x : Int) ≤ 9223372036854775808 := by omega
  have hxj : (1 : Int) ≤ (x : Int) := by omega
  have HBL := hide (Below.refl w.heap.size w)
  clear hp hT hxq
  rcases hmin with ⟨_, hsz, hb, hd0⟩ | ⟨h, _⟩
  · have hd := hd0.symm
    have h45 : (((s[0]'hsz).toNat : Int) == 45) = true := by rw [byte_at s 0 hsz, hb]; rfl
    rw [decide_eq_false (by omega)] at hE
    clear hd0 hb
    go_enter Try.func24, Try.ntmps24
    go_wp2_with (go_at_call 36; refine (HPL.out _).mono ?_; rintro e w' ⟨rfl, hw⟩; subst w')
    refine (HRD.out _).mono ?_
    rintro e w1 ⟨rfl, hb1⟩
    replace HBL := hide (below_trans HBL.out hb1)
    clear hb1
    go_upto_region 9 with fail
    refine wp_gen (fun W => Below w.heap.size w W ∧ LiesF W w1.heap.size (dgl x)) ⟨below_trans HBL.out (below_allocs _ _), liesF_new _ _ _⟩ ?_
    rintro W1 ⟨gHBL, gH6⟩
    generalize w1.heap.size = p6 at *
    replace HBL := hide gHBL
    have H6 := hide gH6
    clear gHBL gH6
    have hcH6 := H6.out.1
    go_wp2_with fail
    refine (HBG.out _).mono ?_
    rintro e w2 ⟨v2, rfl, hv2, hb2⟩
    replace HBL := hide (below_trans HBL.out hb2)
    replace H6 := hide (H6.out.below hb2)
    have HV := hide hv2
    clear hv2
    clear hcH6
    clear hb2
    go_wp2_with fail
    refine (HPW.out _).mono ?_
    rintro e w3 ⟨v3, rfl, hv3, hb3⟩
    replace HBL := hide (below_trans HBL.out hb3)
    replace H6 := hide (H6.out.below hb3)
    replace HV := hide (HV.out.below hb3)
    have HP := hide hv3
    clear hv3
    clear hb3
    go_wp2_with fail
    refine (HCP.out _ _ _ HV.out HP.out).mono ?_
    rintro e w4 ⟨rfl, hb4⟩
    subst hb4
    have hc6 := H6.out.1
    have hd0 := HD0.out
    go_wp2
    exact bodyPost_ret (v := .tuple #[.int .i64 (-(x : Int)), .int .i64 (0)]) (by simp [results, Try.results24, go_sem]; omega) rfl ⟨rfl, HBL.out⟩
  · exact absurd h (by decide)

set_option maxHeartbeats 1000000 in
theorem refInt_low (s d : ByteArray) (hs : s.size ≤ 1000) (hmin : MinusOf s true d) (hp : plainN 10 d) (hshort : d.size ≤ 30) (x : Nat) (hxq : x < QQ) (hT : Told (plainN 10 d) 10 d x 0) (hdz : (d.toList == [48]) = false) (hx : 9223372036854775808 < x) (w : World) :
    Calls Try.prog 24 #[.string s] w fun e w' => e = .returned (.tuple #[.int .i64 0, .int .i64 4]) ∧ Below w.heap.size w w' := by
  have hs' : (s.size : Int) ≤ 1000 := by omega
  have hE := empty_iff s
  have hds : d.size ≤ 1000 := minus_size hmin hs
  have hds' : (d.size : Int) ≤ 1000 := by omega
  have HPZ := hide hp.1
  have HPL : Hid (∀ w, Calls Try.prog 36 #[.string d, .int .i64 10] w fun e w' => e = .returned (.bool true) ∧ w' = w) := fun w => ref4Plain_any d 10 (by decide) (by decide) (by omega) true (show Hid _ from ⟨fun _ => hp, fun _ => rfl⟩) w
  have HRD : Hid (∀ w, Calls Try.prog 14 #[.string d, .int .i64 10] w fun e w' => e = .returned (.tuple #[.agg #[.int .u64 (dgl (x) 0 : Nat), .int .u64 (dgl (x) 1 : Nat), .int .u64 (dgl (x) 2 : Nat), .int .u64 (dgl (x) 3 : Nat), .int .u64 (dgl (x) 4 : Nat), .int .u64 (dgl (x) 5 : Nat), .int .u64 (dgl (x) 6 : Nat), .int .u64 (dgl (x) 7 : Nat)], .int .i64 0]) ∧ Below w.heap.size w w') := fun w => ref4Read_any d 10 x 0 (by decide) (by decide) (by omega) hT w
  have HBG := hide (fun w => refBig_any x hxq w)
  have hl30 : ¬ (30 : Int) < (d.size : Int) := by omega
  have HPW := hide (fun w => refPower_any 63 9223372036854775808 (by decide) (by decide) w)
  have HCP := hide (fun v u w hv hu => cmp_any x 9223372036854775808 40 4 v u w hv hu)
  have hcm := cmp_gt hx
  generalize cmpN x 9223372036854775808 = cm at *
  have HBL := hide (Below.refl w.heap.size w)
  clear hp hT hxq
  rcases hmin with ⟨_, hsz, hb, hd0⟩ | ⟨h, _⟩
  · have hd := hd0.symm
    have h45 : (((s[0]'hsz).toNat : Int) == 45) = true := by rw [byte_at s 0 hsz, hb]; rfl
    rw [decide_eq_false (by omega)] at hE
    clear hd0 hb
    go_enter Try.func24, Try.ntmps24
    go_wp2_with (go_at_call 36; refine (HPL.out _).mono ?_; rintro e w' ⟨rfl, hw⟩; subst w')
    refine (HRD.out _).mono ?_
    rintro e w1 ⟨rfl, hb1⟩
    replace HBL := hide (below_trans HBL.out hb1)
    clear hb1
    go_upto_region 9 with fail
    refine wp_gen (fun W => Below w.heap.size w W ∧ LiesF W w1.heap.size (dgl x)) ⟨below_trans HBL.out (below_allocs _ _), liesF_new _ _ _⟩ ?_
    rintro W1 ⟨gHBL, gH6⟩
    generalize w1.heap.size = p6 at *
    replace HBL := hide gHBL
    have H6 := hide gH6
    clear gHBL gH6
    have hcH6 := H6.out.1
    go_wp2_with fail
    refine (HBG.out _).mono ?_
    rintro e w2 ⟨v2, rfl, hv2, hb2⟩
    replace HBL := hide (below_trans HBL.out hb2)
    replace H6 := hide (H6.out.below hb2)
    have HV := hide hv2
    clear hv2
    clear hcH6
    clear hb2
    go_wp2_with fail
    refine (HPW.out _).mono ?_
    rintro e w3 ⟨v3, rfl, hv3, hb3⟩
    replace HBL := hide (below_trans HBL.out hb3)
    replace H6 := hide (H6.out.below hb3)
    replace HV := hide (HV.out.below hb3)
    have HP := hide hv3
    clear hv3
    clear hb3
    go_wp2_with fail
    refine (HCP.out _ _ _ HV.out HP.out).mono ?_
    rintro e w4 ⟨rfl, hb4⟩
    subst hb4
    have hc6 := H6.out.1
    go_wp2
    exact bodyPost_ret (v := .tuple #[.int .i64 (0), .int .i64 (4)]) (by simp [results, Try.results24, go_sem]) rfl ⟨rfl, HBL.out⟩
  · exact absurd h (by decide)

end Go.Proofs.Ytjklehlkgccmnaa

/- digits.ParseInt and radicandref04.Int answer alike. -/
set_option linter.unusedVariables false
set_option linter.unusedSimpArgs false
set_option maxRecDepth 8000
namespace Go.Proofs.Ytjklehlkgccmnaa
open Go.RowKit Plain

theorem worth_zero {b : Nat} (h : worthN (b : Nat) = 0) : b = 48 := by
  unfold worthN at h
  split at h
  · omega
  · split at h <;> omega
theorem num_ge (d : ByteArray) (h : worthN (byteN d 0 : Nat) ≠ 0) : ∀ k, 10 ^ k ≤ numN 10 d (k + 1)
  | 0 => by
    show 1 ≤ 10 * 0 + worthN (byteN d 0 : Nat)
    omega
  | k + 1 => by
    have := num_ge d h k
    show _ ≤ 10 * numN 10 d (k + 1) + worthN (byteN d (k + 1) : Nat)
    rw [Nat.pow_succ]
    omega
theorem num_lt (d : ByteArray) : ∀ k, goodN 10 d k → numN 10 d k < 10 ^ k
  | 0, _ => Nat.zero_lt_one
  | k + 1, h => by
    have h1 := num_lt d k (fun i hi => h i (by omega))
    have h2 := h k (by omega)
    show 10 * numN 10 d k + worthN (byteN d k) < _
    rw [Nat.pow_succ]
    omega
theorem plain_ge {d : ByteArray} (h : plainN 10 d) : d.size = 1 ∨ 10 ^ (d.size - 1) ≤ numN 10 d d.size := by
  rcases h.2.2 with h1 | h1
  · right
    have := num_ge d (fun h0 => h1 (worth_zero h0)) (d.size - 1)
    rw [show d.size - 1 + 1 = d.size by have := h.1; omega] at this
    exact this
  · exact .inl h1
theorem plain_short {d : ByteArray} (h : plainN 10 d) {x : Nat} (hx : numN 10 d d.size = x) (hb : x ≤ 9223372036854775808) : d.size ≤ 30 := by
  rcases Nat.lt_or_ge 30 d.size with h1 | h1
  · exfalso
    rcases plain_ge h with h2 | h2
    · omega
    · have h3 : 10 ^ 30 ≤ 10 ^ (d.size - 1) := Nat.pow_le_pow_right (by decide) (by omega)
      have h4 : (9223372036854775808 : Nat) < 10 ^ 30 := by decide
      omega
  · exact h1
theorem plain_big {d : ByteArray} (h : plainN 10 d) (hb : QQ ≤ numN 10 d d.size) : 30 < d.size := by
  rcases Nat.lt_or_ge 30 d.size with h1 | h1
  · exact h1
  · exfalso
    have h2 := num_lt d d.size h.2.1
    have h3 : 10 ^ d.size ≤ 10 ^ 30 := Nat.pow_le_pow_right (by decide) h1
    have h4 : 10 ^ 30 < QQ := by decide +kernel
    omega
theorem one_byte {d : ByteArray} (h1 : d.size = 1) (h2 : byteN d 0 = 48) : d = ⟨#[48]⟩ := by
  apply ByteArray.ext
  have hs : 0 < d.size := by omega
  refine Array.ext (by rw [show d.data.size = d.size from rfl, h1]; rfl) (fun i hi _ => ?_)
  have hi0 : i = 0 := by have : d.data.size = 1 := h1; omega
  subst hi0
  have := byte_at d 0 hs
  rw [h2] at this
  exact UInt8.toNat_inj.mp this
theorem plain_zero {d : ByteArray} (h : plainN 10 d) (hx : numN 10 d d.size = 0) : d = ⟨#[48]⟩ := by
  rcases plain_ge h with h1 | h1
  · refine one_byte h1 (worth_zero ?_)
    rw [h1] at hx
    have : 10 * 0 + worthN (byteN d 0 : Nat) = 0 := hx
    omega
  · have : 0 < 10 ^ (d.size - 1) := Nat.pow_pos (by decide)
    omega
theorem plain_nz {d : ByteArray} (hx : numN 10 d d.size ≠ 0) : (d.toList == [48]) = false := by
  rw [beq_eq_false_iff_ne]
  intro he
  apply hx
  have h0 : d = ⟨#[48]⟩ := by
    apply ByteArray.ext
    apply Array.ext'
    rw [← Lib.toList_data, he]
  rw [h0]
  rfl

theorem int_both (s : ByteArray) (hs : s.size ≤ 100) : ∃ z c : Int,
    (∀ w, Calls Try.prog 23 #[.string s] w fun e w' => e = .returned (.tuple #[.int .i64 z, .int .i64 c]) ∧ Below w.heap.size w w') ∧
    (∀ w, Calls Try.prog 24 #[.string s] w fun e w' => e = .returned (.tuple #[.int .i64 z, .int .i64 c]) ∧ Below w.heap.size w w') := by
  obtain ⟨m, d, hmin⟩ := minus_ex s
  have hds := minus_size hmin hs
  obtain ⟨x, e, hT⟩ := told_ex (plainN 10 d) 10 d
  have hPD : Hid (∀ w, Calls Try.prog 15 #[.string d] w fun e' w' => e' = .returned (.tuple #[.agg #[.int .u64 (dgl (x) 0 : Nat), .int .u64 (dgl (x) 1 : Nat), .int .u64 (dgl (x) 2 : Nat), .int .u64 (dgl (x) 3 : Nat), .int .u64 (dgl (x) 4 : Nat), .int .u64 (dgl (x) 5 : Nat), .int .u64 (dgl (x) 6 : Nat), .int .u64 (dgl (x) 7 : Nat)], .int .i64 e]) ∧ Below w.heap.size w w') := fun w => parseDecimal_any d x e (by omega) hT w
  by_cases hp : plainN 10 d
  · rcases hT with ⟨t1, t2, t3, rfl⟩ | ⟨t1, t2, t3, rfl⟩ | ⟨t1, _⟩
    · have hT2 : Told (plainN 10 d) 10 d x 0 := .inl ⟨t1, t2, t3, rfl⟩
      have hxq : x < QQ := by rw [t3]; exact t2
      cases m with
      | true =>
        by_cases hx0 : x = 0
        · exact ⟨0, 2, fun w => parseInt_nil s d true x hmin rfl hx0 w hPD, fun w => refInt_nil s d (by omega) hmin hp (plain_zero hp (by rw [← t3, hx0])) w⟩
        · have hdz := plain_nz (d := d) (by rw [← t3]; exact hx0)
          by_cases hxl : x ≤ 9223372036854775808
          · exact ⟨-(x : Int), 0, fun w => parseInt_neg s d true x hmin rfl (by omega) hxl w hPD, fun w => refInt_neg s d (by omega) hmin hp (plain_short hp t3.symm hxl) x hxq hT2 hdz (by omega) hxl w⟩
          · refine ⟨0, 4, fun w => parseInt_low s d true x hmin rfl (by omega) hxq w hPD, fun w => ?_⟩
            by_cases hl : 30 < d.size
            · exact refInt_long_t s d (by omega) hmin hp hdz hl w
            · exact refInt_low s d (by omega) hmin hp (by omega) x hxq hT2 hdz (by omega) w
      | false =>
        by_cases hxl : x ≤ 9223372036854775807
        · exact ⟨(x : Nat), 0, fun w => parseInt_pos s d false x hmin rfl hxl w hPD, fun w => refInt_pos s d (by omega) hmin hp (plain_short hp t3.symm (by omega)) x hxq hT2 hxl w⟩
        · refine ⟨0, 4, fun w => parseInt_high s d false x hmin rfl (by omega) hxq w hPD, fun w => ?_⟩
          by_cases hl : 30 < d.size
          · exact refInt_long_f s d (by omega) hmin hp hl w
          · exact refInt_high s d (by omega) hmin hp (by omega) x hxq hT2 (by omega) w
    · have hl := plain_big hp t2
      refine ⟨0, 4, fun w => parseInt_err s d m x hmin 4 (by decide) w hPD, fun w => ?_⟩
      cases m with
      | true => exact refInt_long_t s d (by omega) hmin hp (plain_nz (by have : 0 < QQ := by decide +kernel
                                                                         omega)) hl w
      | false => exact refInt_long_f s d (by omega) hmin hp hl w
    · exact absurd hp t1
  · rcases hT with ⟨t1, _⟩ | ⟨t1, _⟩ | ⟨_, t2, rfl⟩
    · exact absurd t1 hp
    · exact absurd t1 hp
    · refine ⟨0, 2, fun w => parseInt_err s d m x hmin 2 (by decide) w hPD, fun w => ?_⟩
      cases m with
      | true => exact refInt_bad_t s d (by omega) hmin hp w
      | false => exact refInt_bad_f s d (by omega) hmin hp w

theorem sym_ge (d : Nat) : 48 ≤ symN d := by unfold symN; split <;> omega
theorem minus_pos {x n : Nat} (hn : DecN x n) : MinusOf (textN 10 x n) false (textN 10 x n) := by
  refine .inr ⟨rfl, .inr ?_, rfl⟩
  rw [textN_byte (by decide) (by decide) x n 0 hn.1]
  have := sym_ge (digN 10 x n 0)
  omega
theorem minus_neg (x n : Nat) : MinusOf (⟨#[45]⟩ ++ textN 10 x n) true (textN 10 x n) := by
  have hs : ((⟨#[45]⟩ : ByteArray) ++ textN 10 x n).size = 1 + n := by rw [ByteArray.size_append, textN_size]; rfl
  refine .inl ⟨rfl, by omega, ?_, ?_⟩
  · rw [← byte_at _ 0 (by omega)]
    rw [ByteArray.getElem_append_left (by decide)]
    rfl
  · rw [show ((⟨#[45]⟩ : ByteArray) ++ textN 10 x n).size = (⟨#[45]⟩ : ByteArray).size + (textN 10 x n).size from ByteArray.size_append]
    exact (ByteArray.extract_append_eq_right rfl rfl).symm
theorem int_own (x n : Nat) (hx : x ≤ 9223372036854775808) (hn : DecN x n) : plainN 10 (textN 10 x n) ∧ (textN 10 x n).size ≤ 30 ∧ x < QQ ∧ Told (plainN 10 (textN 10 x n)) 10 (textN 10 x n) x 0 ∧ numN 10 (textN 10 x n) (textN 10 x n).size = x := by
  have hq : x < QQ := ll_qq (by omega)
  have hT := textN_told (base := 10) (by decide) (by decide) x n hn.1 hn.2.1 hn.2.2 hq
  have hp := textN_plain (base := 10) (by decide) (by decide) x n hn.1 hn.2.1 hn.2.2
  have hnum := textN_all (base := 10) (by decide) (by decide) x n hn.2.1
  exact ⟨hp, plain_short hp hnum hx, hq, hT, hnum⟩

end Go.Proofs.Ytjklehlkgccmnaa

