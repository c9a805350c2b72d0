/- Contracts and laws: DigN, DigO. -/
import Derived.Test.YtjklehlkgccmnaaBaseU
import Derived.Test.YtjklehlkgccmnaaBaseN
/- Contracts: digits.Int; law04.awake. -/
set_option linter.unusedVariables false
set_option linter.unusedSimpArgs false
set_option maxRecDepth 8000
namespace Go.Proofs.Ytjklehlkgccmnaa
open Go.RowKit Plain

theorem wideOf_x (x : Nat) (hx : x < 18446744073709551616) (w : World) (b : Nat) (hb : b = w.heap.size) :
    Calls Try.prog 45 #[.slice (some ⟨b, 0, none⟩) 1 1] (w.alloc (.cells #[.int .u64 (x : Nat)] 22)) fun e w' => e = .returned (.agg #[.int .u64 (dgl (x) 0 : Nat), .int .u64 (dgl (x) 1 : Nat), .int .u64 (dgl (x) 2 : Nat), .int .u64 (dgl (x) 3 : Nat), .int .u64 (dgl (x) 4 : Nat), .int .u64 (dgl (x) 5 : Nat), .int .u64 (dgl (x) 6 : Nat), .int .u64 (dgl (x) 7 : Nat)]) ∧ Below w.heap.size w w' := by
  subst hb
  have hr := Rd.lit (mk := mk64) w 22 [.int .u64 (x : Nat)] [x] rfl 1 (Nat.le_refl 1) (by decide)
  refine (wideOf_any [x] x _ _ hr ?_).mono ?_
  · intro i hi
    exact (dig_one (β := 18446744073709551616) hx).2 i
  · rintro e w' ⟨rfl, h⟩
    exact ⟨rfl, below_alloc_then h⟩
theorem ll_qq {x : Nat} (h : x < 18446744073709551616) : x < QQ := by unfold QQ; omega

set_option maxHeartbeats 1000000 in
theorem int_pos (x n : Nat) (hx : x < 9223372036854775808) (hn : DecN x n) (w : World) :
    Calls Try.prog 22 #[.int .i64 (x : Nat)] w fun e w' => e = .returned (.string (textN 10 x n)) ∧ Below w.heap.size w w' := by
  have HO := hide (fun w b hb => wideOf_x x (by omega) w b hb)
  have HD := hide (fun w => decimal_any x n (ll_qq (by omega)) hn w)
  have hneg : ¬ (x : Int) < 0 := by omega
  have hx' : (x : Int) < 9223372036854775808 := by omega
  clear hn hx
  go_enter Try.func22, Try.ntmps22
  go_wp2_with fail
  refine (HO.out _ _ rfl).mono ?_
  rintro e w1 ⟨rfl, hb1⟩
  have HB1 := hide hb1
  clear hb1
  go_wp2_with fail
  refine (HD.out _).mono ?_
  rintro e w2 ⟨rfl, hb2⟩
  have HB2 := hide (below_trans HB1.out hb2)
  clear hb2
  go_wp2
  go_ret
  exact ⟨rfl, HB2.out⟩

set_option maxHeartbeats 1000000 in
theorem int_neg (x n : Nat) (hx0 : 0 < x) (hx : x ≤ 9223372036854775808) (hn : DecN x n) (w : World) :
    Calls Try.prog 22 #[.int .i64 (-(x : Int))] w fun e w' => e = .returned (.string (⟨#[45]⟩ ++ textN 10 x n)) ∧ Below w.heap.size w w' := by
  obtain ⟨T, hT⟩ : ∃ T, (⟨#[45]⟩ : ByteArray) ++ textN 10 x n = T := ⟨_, rfl⟩
  rw [hT]
  have HO := hide (fun w b hb => wideOf_x x (by omega) w b hb)
  have HD := hide (fun w => decimal_any x n (ll_qq (by omega)) hn w)
  have hneg : -(x : Int) < 0 := by omega
  have hw1 : IntKind.u64.wrap (-(x : Int)) = 18446744073709551616 - (x : Int) := by rw [IntKind.wrap_u64]; omega
  have hw2 : IntKind.u64.wrap (-(18446744073709551616 - (x : Int))) = (x : Int) := by rw [IntKind.wrap_u64]; omega
  have hts : (textN 10 x n).size ≤ 155 := by rw [textN_size]; exact decN_le hn (ll_qq (by omega))
  generalize textN 10 x n = t at *
  have HT := hide hT
  clear hn hT
  go_enter Try.func22, Try.ntmps22
  go_wp2_with fail
  refine (HO.out _ _ rfl).mono ?_
  rintro e w1 ⟨rfl, hb1⟩
  have HB1 := hide hb1
  clear hb1
  go_wp2_with fail
  refine (HD.out _).mono ?_
  rintro e w2 ⟨rfl, hb2⟩
  have HB2 := hide (below_trans HB1.out hb2)
  clear hb2
  go_wp2
  rw [HT.out]
  go_ret
  exact ⟨rfl, HB2.out⟩

theorem awake4_hex : textN 16 18446744073709551616 (hexN 18446744073709551616) = ⟨#[49, 48, 48, 48, 48, 48, 48, 48, 48, 48, 48, 48, 48, 48, 48, 48, 48]⟩ := by kernel_rfl
theorem awake4_dec : textN 10 18446744073709551616 20 = ⟨#[49, 56, 52, 52, 54, 55, 52, 52, 48, 55, 51, 55, 48, 57, 53, 53, 49, 54, 49, 54]⟩ := by kernel_rfl
theorem awake4_int : ⟨#[45]⟩ ++ textN 10 7 1 = ⟨#[45, 55]⟩ := by kernel_rfl
set_option maxHeartbeats 1000000 in
theorem awake4_any (w : World) : Calls Try.prog 12 #[] w fun e w' => e = .returned (.bool true) ∧ Below w.heap.size w w' := by
  have hq : 2 ^ 512 = QQ := by decide +kernel
  have HP : Hid (∀ w, Calls Try.prog 31 #[.int .i64 64] w fun e w' => e = .returned (.agg #[.int .u64 (dgl (18446744073709551616) 0 : Nat), .int .u64 (dgl (18446744073709551616) 1 : Nat), .int .u64 (dgl (18446744073709551616) 2 : Nat), .int .u64 (dgl (18446744073709551616) 3 : Nat), .int .u64 (dgl (18446744073709551616) 4 : Nat), .int .u64 (dgl (18446744073709551616) 5 : Nat), .int .u64 (dgl (18446744073709551616) 6 : Nat), .int .u64 (dgl (18446744073709551616) 7 : Nat)]) ∧ Below w.heap.size w w') := fun w => power_lt 64 512 hq (by decide) 64 rfl rfl w
  clear hq
  have HH := hide (fun w => hex_any 18446744073709551616 (by decide +kernel) w)
  have HD := hide (fun w => decimal_any 18446744073709551616 20 (by decide +kernel) ⟨by decide, by decide, .inr (by decide)⟩ w)
  have HI := hide (fun w => int_neg 7 1 (by decide) (by decide) ⟨by decide, by decide, .inl rfl⟩ w)
  rw [awake4_hex] at HH
  rw [awake4_dec] at HD
  rw [awake4_int] at HI
  go_enter Try.func12, Try.ntmps12
  go_wp2_with fail
  refine (HP.out _).mono ?_
  rintro e w1 ⟨rfl, hb1⟩
  go_wp2_with fail
  refine (HH.out _).mono ?_
  rintro e w2 ⟨rfl, hb2⟩
  have HB2 := hide (below_trans hb1 hb2)
  clear hb1 hb2
  go_wp2_with fail
  refine (HP.out _).mono ?_
  rintro e w3 ⟨rfl, hb3⟩
  go_wp2_with fail
  refine (HD.out _).mono ?_
  rintro e w4 ⟨rfl, hb4⟩
  have HB4 := hide (below_trans HB2.out (below_trans hb3 hb4))
  clear hb3 hb4 HB2
  go_wp2_with fail
  refine (HI.out _).mono ?_
  rintro e w5 ⟨rfl, hb5⟩
  have HB5 := hide (below_trans HB4.out hb5)
  clear hb5 HB4
  go_wp2
  go_ret
  exact ⟨rfl, HB5.out⟩

end Go.Proofs.Ytjklehlkgccmnaa

/- Contracts: radicandref04.Read. -/
set_option linter.unusedVariables false
set_option linter.unusedSimpArgs false
set_option maxRecDepth 8000
namespace Go.Proofs.Ytjklehlkgccmnaa
open Go.RowKit Plain

structure R4St (w W : World) : Prop where
  lr : LiesF W w.heap.size (fun _ => 0)
  fr : ∀ i, W.frozen? ⟨w.heap.size, i, none⟩ = false
  bel : Below w.heap.size w W
theorem R4St.below {w W W' : World} (h : R4St w W) (hb : Below W.heap.size W W') : R4St w W' :=
  ⟨h.lr.below hb, fun i => (hb.frozen (p := ⟨w.heap.size, i, none⟩) h.lr.2).trans (h.fr i), below_trans h.bel hb⟩
theorem R4St.start (w : World) : R4St w (w.alloc (.cells #[.int .u64 0, .int .u64 0, .int .u64 0, .int .u64 0, .int .u64 0, .int .u64 0, .int .u64 0, .int .u64 0] 24)) := ⟨liesF_new w (fun _ => 0) 24, fun i => by simp [go_sem], below_allocs _ _⟩
theorem refAdd_fix (n m K L M : Nat) (va vb : Value) (w : World) (ha : BigV w va n K) (hb : BigV w vb m L) (hK : K ≤ 1000000) (hL : L ≤ 1000000) (hM : max K L + 1 ≤ M) :
    Calls Try.prog 29 #[va, vb] w fun e w' => ∃ v, e = .returned v ∧ BigV w' v (n + m) M ∧ Below w.heap.size w w' := by
  refine (refAdd_any n m K L va vb w ha hb hK hL).mono ?_
  rintro e w' ⟨v, rfl, h1, h2⟩
  exact ⟨v, rfl, h1.mono hM, h2⟩

set_option maxHeartbeats 1000000 in
theorem ref4Read_bad (s : ByteArray) (base : Nat) (h1 : 1 ≤ base) (h2 : base ≤ 16) (hs : s.size ≤ 1000) (hp : ¬ plainN base s) (w : World) :
    Calls Try.prog 14 #[.string s, .int .i64 (base : Nat)] w fun e w' => e = .returned (.tuple #[.agg #[.int .u64 0, .int .u64 0, .int .u64 0, .int .u64 0, .int .u64 0, .int .u64 0, .int .u64 0, .int .u64 0], .int .i64 2]) ∧ Below w.heap.size w w' := by
  have HP := hide (fun w => ref4Plain_any s base h1 h2 (by omega) false (show Hid _ from ⟨fun h => Bool.noConfusion h, fun h => absurd h hp⟩) w)
  have HB := hide (below_allocs w (.cells #[.int .u64 0, .int .u64 0, .int .u64 0, .int .u64 0, .int .u64 0, .int .u64 0, .int .u64 0, .int .u64 0] 24))
  clear hp
  go_enter Try.func14, Try.ntmps14
  go_wp2_with (go_at_call 36; refine (HP.out _).mono ?_; rintro e w' ⟨rfl, hw⟩; subst w')
  exact bodyPost_ret (v := .tuple #[.agg #[.int .u64 0, .int .u64 0, .int .u64 0, .int .u64 0, .int .u64 0, .int .u64 0, .int .u64 0, .int .u64 0], .int .i64 2]) (by simp [results, Try.results14, go_sem]) rfl ⟨rfl, HB.out⟩

set_option maxHeartbeats 300000 in
theorem ref4Read_good (s : ByteArray) (base x : Nat) (c : Int) (h1 : 1 ≤ base) (h2 : base ≤ 16) (hs : s.size ≤ 1000) (hp : plainN base s) (hT : Told (plainN base s) base s x c) (w : World) :
    Calls Try.prog 14 #[.string s, .int .i64 (base : Nat)] w fun e w' => e = .returned (.tuple #[.agg #[.int .u64 (dgl (x) 0 : Nat), .int .u64 (dgl (x) 1 : Nat), .int .u64 (dgl (x) 2 : Nat), .int .u64 (dgl (x) 3 : Nat), .int .u64 (dgl (x) 4 : Nat), .int .u64 (dgl (x) 5 : Nat), .int .u64 (dgl (x) 6 : Nat), .int .u64 (dgl (x) 7 : Nat)], .int .i64 c]) ∧ Below w.heap.size w w' := by
  have HP := hide (fun w => ref4Plain_any s base h1 h2 (by omega) true (show Hid _ from ⟨fun _ => hp, fun _ => rfl⟩) w)
  have HGD := hide hp.2.1
  have HTT := hide hT
  have HPP := hide hp
  have HS0 := hide (R4St.start w)
  have HB64 : Hid (base < 18446744073709551616) := by unfold Hid; omega
  have HWB : Hid (IntKind.u64.wrap (base : Int) = (base : Int)) := by unfold Hid; rw [IntKind.wrap_u64]; omega
  have hs' : (s.size : Int) ≤ 1000 := by omega
  clear hp hT
  go_enter Try.func14, Try.ntmps14
  go_wp2_with (go_at_call 36; refine (HP.out _).mono ?_; rintro e w' ⟨rfl, hw⟩; subst w')
  go_loopw [6, 7] (fun v i wr => ∃ (k : Nat) (u : Value), k ≤ s.size ∧ u = v ∧ i = .int .i64 k ∧ Hid (BigV wr u (numN base s k) (3 * k)) ∧ Hid (R4St w wr)) (fun v i _ => s.size - (intOf i).toNat)
  case atStart =>
    refine ⟨0, _, Nat.zero_le _, rfl, rfl, ?_, HS0.out.below (below_allocs _ _)⟩
    exact ⟨[], ⟨_, 0, rfl, Nat.le_refl _, by simp [maxLen], .inl rfl⟩, dig_nil, .inl rfl, Nat.le_refl _⟩
  case round =>
    clear HS0 HP
    obtain ⟨k, v, hk, rfl, rfl, hbv, hst⟩ := hrel
    by_cases hlt : k < s.size
    · have hj : (k : Int) < (s.size : Int) := by omega
      have hb256 : byteN s k < 256 := (s.get! k).toNat_lt
      have hdb := HGD.out k hlt
      have HDG := hide (fun w => ref4Digit_any (byteN s k) base hb256 h1 h2 w)
      rw [show refDig (byteN s k) base = (worthN (byteN s k) : Int) from by unfold refDig; rw [if_pos hdb]] at HDG
      have HNN : Hid (numN base s k * base + worthN (byteN s k) = numN base s (k + 1)) := by
        unfold Hid
        rw [Nat.mul_comm]
        rfl
      have HBT : Hid (((s[k]'hlt).toNat : Int) = (byteN s k : Int)) := by unfold Hid; rw [byte_at s k hlt]
      have HLT := hide hj
      have HD64 : Hid (worthN (byteN s k) < 18446744073709551616) := by unfold Hid; omega
      have HWD : Hid (IntKind.u64.wrap (worthN (byteN s k) : Int) = (worthN (byteN s k) : Int)) := by unfold Hid; rw [IntKind.wrap_u64]; omega
      have HK : Hid (3 * k ≤ 1000000) := by unfold Hid; omega
      have HK2 : Hid (3 * k + 2 ≤ 1000000) := by unfold Hid; omega
      clear hb256 hdb
      generalize worthN ((byteN s k : Nat) : Int) = d at *
      generalize byteN s k = bt at *
      generalize numN base s k = N at *
      have h1 : R4St w wr ∧ BigV wr v N (3 * k) := ⟨hst.out, hbv.out⟩
      clear hst hbv
      go_upto_region 7 with fail
      refine wp_region_grow 13 [(22, .val (v)), (23, .val (.int .i64 (base : Nat))), (24, .val (.int .u64 (base : Nat))), (25, .big base 2), (26, .big (N * base) (3 * k + 2)), (27, .val (.string s)), (28, .val (.int .i64 (k : Nat))), (29, .val (.int .u8 (bt : Nat))), (30, .val (.int .i64 (base : Nat))), (31, .val (.int .i64 (d : Nat))), (32, .val (.int .u64 (d : Nat))), (33, .big d 2), (34, .big (N * base + d) (3 * k + 3))]
        (fun W => R4St w W ∧ BigV W v N (3 * k)) mixedOk (by kernel_rfl) (by kernel_rfl) (⟨h1.1.below (Below.refl _ _).drew, h1.2.below (Below.refl _ _).drew⟩) (fun W W' h hb => ⟨h.1.below hb, h.2.below hb⟩) ?_ ?_
      · refine gSt (gStep_run rfl (gRun_move 6 22 (.inl rfl) rfl (by decide +kernel) (fun v w h => h))) ?_
        refine gSt (gStep_run rfl (gRun_move 1 23 (.inl rfl) rfl (by decide +kernel) (fun v w h => h))) ?_
        refine gSt (gStep_run rfl ?_) ?_
        · intro ρ W hC hc hf hL
          have e23 : ρ (.tmp 23) = .int .i64 (base : Nat) := hL 23 (by decide +kernel)
          have hw := HWB.out
          simp [go_sem, hc, hf, e23, hw]
          exact ⟨Below.refl _ _, rfl⟩
        refine gSt (gStep_run rfl ?_) ?_
        · intro ρ W hC hc hf hL
          have e24 : ρ (.tmp 24) = .int .u64 (base : Nat) := hL 24 (by decide +kernel)
          simp [go_sem, hc, hf, e24]
          refine (small_any base HB64.out W).mono ?_
          rintro e w' ⟨v, rfl, hv, hb⟩
          exact ⟨_, rfl, hb, hv⟩
        refine gSt (gStep_run rfl ?_) ?_
        · intro ρ W hC hc hf hL
          have e22 : ρ (.tmp 22) = v := hL 22 (by decide +kernel)
          have b25 : BigV W (ρ (.tmp 25)) (base) (2) := hL 25 (by decide +kernel)
          simp [go_sem, hc, hf, e22]
          refine (refMul_any N base (3 * k) 2 _ _ W hC.2 b25 HK.out (by decide)).mono ?_
          rintro e w' ⟨v, rfl, hv, hb⟩
          exact ⟨_, rfl, hb, hv⟩
        refine gSt (gStep_run rfl (gRun_move 0 27 (.inl rfl) rfl (by decide +kernel) (fun v w h => h))) ?_
        refine gSt (gStep_run rfl (gRun_move 7 28 (.inl rfl) rfl (by decide +kernel) (fun v w h => h))) ?_
        refine gSt (gStep_run rfl ?_) ?_
        · intro ρ W hC hc hf hL
          have e27 : ρ (.tmp 27) = .string s := hL 27 (by decide +kernel)
          have e28 : ρ (.tmp 28) = .int .i64 (k : Nat) := hL 28 (by decide +kernel)
          have hlt := HLT.out
          have hbt := HBT.out
          simp [go_sem, hc, hf, e27, e28, hlt, hbt]
          exact ⟨Below.refl _ _, rfl⟩
        refine gSt (gStep_run rfl (gRun_move 1 30 (.inl rfl) rfl (by decide +kernel) (fun v w h => h))) ?_
        refine gSt (gStep_run rfl ?_) ?_
        · intro ρ W hC hc hf hL
          have e29 : ρ (.tmp 29) = .int .u8 (bt : Nat) := hL 29 (by decide +kernel)
          have e30 : ρ (.tmp 30) = .int .i64 (base : Nat) := hL 30 (by decide +kernel)
          simp [go_sem, hc, hf, e29, e30]
          refine (HDG.out W).mono ?_
          rintro e w' ⟨rfl, hb⟩
          exact ⟨_, rfl, by first | exact hb | (subst hb; exact Below.refl _ _), rfl⟩
        refine gSt (gStep_run rfl ?_) ?_
        · intro ρ W hC hc hf hL
          have e31 : ρ (.tmp 31) = .int .i64 (d : Nat) := hL 31 (by decide +kernel)
          have hw := HWD.out
          simp [go_sem, hc, hf, e31, hw]
          exact ⟨Below.refl _ _, rfl⟩
        refine gSt (gStep_run rfl ?_) ?_
        · intro ρ W hC hc hf hL
          have e32 : ρ (.tmp 32) = .int .u64 (d : Nat) := hL 32 (by decide +kernel)
          simp [go_sem, hc, hf, e32]
          refine (small_any d HD64.out W).mono ?_
          rintro e w' ⟨v, rfl, hv, hb⟩
          exact ⟨_, rfl, hb, hv⟩
        refine gSt (gStep_run rfl ?_) ?_
        · intro ρ W hC hc hf hL
          have b26 : BigV W (ρ (.tmp 26)) ((N * base)) ((3 * k + 2)) := hL 26 (by decide +kernel)
          have b33 : BigV W (ρ (.tmp 33)) (d) (2) := hL 33 (by decide +kernel)
          simp [go_sem, hc, hf]
          refine (refAdd_fix (N * base) d (3 * k + 2) 2 (3 * k + 3) _ _ W b26 b33 HK2.out (by decide) (by omega)).mono ?_
          rintro e w' ⟨v, rfl, hv, hb⟩
          exact ⟨_, rfl, hb, hv⟩
        exact gSt0
      · intro W hC
        refine gFi 22 rfl ?_
        rintro _ rfl
        refine gFi 23 rfl ?_
        rintro _ rfl
        refine gFi 24 rfl ?_
        rintro _ rfl
        refine gFi 25 rfl ?_
        rintro u25 b25
        refine gFi 26 rfl ?_
        rintro u26 b26
        refine gFi 27 rfl ?_
        rintro _ rfl
        refine gFi 28 rfl ?_
        rintro _ rfl
        refine gFi 29 rfl ?_
        rintro _ rfl
        refine gFi 30 rfl ?_
        rintro _ rfl
        refine gFi 31 rfl ?_
        rintro _ rfl
        refine gFi 32 rfl ?_
        rintro _ rfl
        refine gFi 33 rfl ?_
        rintro u33 b33
        refine gFi 34 rfl ?_
        rintro u34 b34
        refine gFi0 ?_
        simp only [List.drop_succ_cons, List.drop_zero, Act.put, List.setIfInBounds_toArray, List.set_cons_succ, List.set_cons_zero]
        have HS := hide hC.1
        have HV : Hid (BigV W u34 (N * base + d) (3 * k + 3)) := b34
        clear hC h1 b25 b26 b33 b34
        rw [HNN.out] at HV
        go_wp2
        go_roundw
        case rel => exact ⟨k + 1, _, by omega, rfl, by go_num, HV, HS⟩
        case measure => simp [intOf]; omega
    · have hke : k = s.size := by omega
      subst hke
      have hj : ¬ (s.size : Int) < (s.size : Int) := by omega
      have HW := hide (fun w h => refWide_any (numN base s s.size) (3 * s.size) v w h)
      clear hk hlt HGD
      go_wp2_with fail
      refine (HW.out _ hbv.out).mono ?_
      rintro e w1 ⟨rfl, hb1⟩
      rcases HTT.out with ⟨t1, t2, t3, t4⟩ | ⟨t1, t2, t3, t4⟩ | ⟨t1, _, _⟩
      · rw [decide_eq_false (by omega)]
        have HS1 := hide ((hst.out.below hb1).below (below_allocs w1 (.cells #[.int .u64 (dgl (numN base s s.size) 0 : Nat), .int .u64 (dgl (numN base s s.size) 1 : Nat), .int .u64 (dgl (numN base s s.size) 2 : Nat), .int .u64 (dgl (numN base s s.size) 3 : Nat), .int .u64 (dgl (numN base s s.size) 4 : Nat), .int .u64 (dgl (numN base s s.size) 5 : Nat), .int .u64 (dgl (numN base s s.size) 6 : Nat), .int .u64 (dgl (numN base s s.size) 7 : Nat)] 24)))
        have HLX := hide (liesF_new w1 (dgl (numN base s s.size)) 24)
        have HX := hide t3
        have HC := hide t4
        clear hb1 hst hbv HTT t1 t2 t3 t4
        generalize numN base s s.size = N at *
        go_upto_region 9 with fail
        refine wp_gen (fun W => R4St w W ∧ LiesF W w1.heap.size (dgl N)) ⟨HS1.out, HLX.out⟩ ?_
        rintro W2 ⟨h2, h3⟩
        generalize w1.heap.size = p at *
        have hr := h2.lr.1
        have hrf := h2.fr
        have hl := h2.lr.2
        have hcx := h3.1
        have HB := hide h2.bel
        clear h2 h3 HS1 HLX
        go_wp2
        exact bodyPost_ret (v := .tuple #[.agg #[.int .u64 (dgl (N) 0 : Nat), .int .u64 (dgl (N) 1 : Nat), .int .u64 (dgl (N) 2 : Nat), .int .u64 (dgl (N) 3 : Nat), .int .u64 (dgl (N) 4 : Nat), .int .u64 (dgl (N) 5 : Nat), .int .u64 (dgl (N) 6 : Nat), .int .u64 (dgl (N) 7 : Nat)], .int .i64 0]) (by simp [results, Try.results14, go_sem, hr, hl]) rfl ⟨by rw [HX.out, HC.out], below_set8 HB.out w.heap.size (by omega) _ _ _ _ _ _ _ _⟩
      · rw [decide_eq_true t2]
        have HS1 := hide ((hst.out.below hb1).below (below_allocs w1 (.cells #[.int .u64 (dgl (numN base s s.size) 0 : Nat), .int .u64 (dgl (numN base s s.size) 1 : Nat), .int .u64 (dgl (numN base s s.size) 2 : Nat), .int .u64 (dgl (numN base s s.size) 3 : Nat), .int .u64 (dgl (numN base s s.size) 4 : Nat), .int .u64 (dgl (numN base s s.size) 5 : Nat), .int .u64 (dgl (numN base s s.size) 6 : Nat), .int .u64 (dgl (numN base s s.size) 7 : Nat)] 24)))
        have HX := hide t3
        have HC := hide t4
        clear hb1 hst hbv HTT t1 t2 t3 t4
        generalize numN base s s.size = N at *
        go_upto_region 9 with fail
        refine wp_gen (fun W => R4St w W) HS1.out ?_
        intro W2 h2
        have hr := h2.lr.1
        have hrf := h2.fr
        have hl := h2.lr.2
        have HB := hide h2.bel
        clear h2 HS1
        go_wp2
        exact bodyPost_ret (v := .tuple #[.agg #[.int .u64 0, .int .u64 0, .int .u64 0, .int .u64 0, .int .u64 0, .int .u64 0, .int .u64 0, .int .u64 0], .int .i64 4]) (by simp [results, Try.results14, go_sem, hr, hl]) rfl ⟨by rw [HX.out, HC.out]; simp only [dgl_zero]; rfl, below_set8 HB.out w.heap.size (by omega) _ _ _ _ _ _ _ _⟩
      · exact absurd HPP.out t1

theorem ref4Read_any (s : ByteArray) (base x : Nat) (c : Int) (h1 : 1 ≤ base) (h2 : base ≤ 16) (hs : s.size ≤ 1000) (hT : Told (plainN base s) base s x c) (w : World) :
    Calls Try.prog 14 #[.string s, .int .i64 (base : Nat)] w fun e w' => e = .returned (.tuple #[.agg #[.int .u64 (dgl (x) 0 : Nat), .int .u64 (dgl (x) 1 : Nat), .int .u64 (dgl (x) 2 : Nat), .int .u64 (dgl (x) 3 : Nat), .int .u64 (dgl (x) 4 : Nat), .int .u64 (dgl (x) 5 : Nat), .int .u64 (dgl (x) 6 : Nat), .int .u64 (dgl (x) 7 : Nat)], .int .i64 c]) ∧ Below w.heap.size w w' := by
  by_cases hp : plainN base s
  · exact ref4Read_good s base x c h1 h2 hs hp hT w
  · rcases hT with ⟨t, _⟩ | ⟨t, _⟩ | ⟨_, rfl, rfl⟩
    · exact absurd t hp
    · exact absurd t hp
    · simp only [dgl_zero]
      exact ref4Read_bad s base h1 h2 hs hp w

end Go.Proofs.Ytjklehlkgccmnaa

