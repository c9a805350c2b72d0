/- Contracts and laws: ClsB. -/
import Derived.Test.YtidfegilddlglaaDoorXClsA
import Derived.Laws.BitsLemmas
/- Contracts: class.taken with its numbers; class.asked for ints and bools. -/
set_option linter.unusedVariables false
set_option linter.unusedSimpArgs false
set_option maxRecDepth 8000
namespace Go.Proofs.YtidfegilddlglaaDoor
open Go.RowKit Plain

theorem subQ_le {a v : Nat} (ha : a < QQ) (h : v ≤ a) : subQ a v = a - v := by
  have h1 : subQ a v + v % QQ = a % QQ + QQ * bor 18446744073709551616 a v 8 := subW_eq (by decide) 8 a v
  have h2 := subQ_lt a v
  rw [Nat.mod_eq_of_lt ha, Nat.mod_eq_of_lt (Nat.lt_of_le_of_lt h ha)] at h1
  rcases Nat.eq_zero_or_pos (bor 18446744073709551616 a v 8) with h3 | h3
  · rw [h3, Nat.mul_zero] at h1
    omega
  · have h4 : QQ * 1 ≤ QQ * bor 18446744073709551616 a v 8 := Nat.mul_le_mul_left _ h3
    omega
theorem and_mask (u F : Nat) (hu : u < 4294967296) (hF : F ≤ 20) : bits .and .i64 (IntKind.i64.wrap (dgl u 0 : Nat)) ((2 ^ F - 1 : Nat) : Int) = ((u % 2 ^ F : Nat) : Int) := by
  have e : IntKind.i64.wrap (dgl u 0 : Nat) = (u : Int) := by rw [IntKind.wrap_i64, dgl0]; omega
  have h2 : 2 ^ F ≤ 2 ^ 20 := Nat.pow_le_pow_right (by decide) hF
  have h3 := Nat.two_pow_pos F
  rw [e, (bits_nat .i64 40 (by decide) (fun n h0 h1 => by rw [IntKind.wrap_i64]; omega) u (2 ^ F - 1) (by omega) (by omega)).1, Nat.and_two_pow_sub_one_eq_mod]

theorem taken_1 (a : Nat) (ha : a < 2 ^ 16) (w : World) : Calls Tryd.prog 95 #[.agg #[.int .i64 16, .int .i64 11, .int .i64 15, .int .i64 (-14), .int .i64 5], .agg #[.int .u64 (dgl (a) 0 : Nat), .int .u64 (dgl (a) 1 : Nat), .int .u64 (dgl (a) 2 : Nat), .int .u64 (dgl (a) 3 : Nat), .int .u64 (dgl (a) 4 : Nat), .int .u64 (dgl (a) 5 : Nat), .int .u64 (dgl (a) 6 : Nat), .int .u64 (dgl (a) 7 : Nat)]] w fun e w' => e = .returned (.agg #[.bool (a / 2 ^ 15 % 2 == 1), .int .i64 ((a / 2 ^ 10 % 2 ^ 5 : Nat)), .int .u64 (dgl (a % 2 ^ 10) 0 : Nat), .int .u64 (dgl (a % 2 ^ 10) 1 : Nat), .int .u64 (dgl (a % 2 ^ 10) 2 : Nat), .int .u64 (dgl (a % 2 ^ 10) 3 : Nat), .int .u64 (dgl (a % 2 ^ 10) 4 : Nat), .int .u64 (dgl (a % 2 ^ 10) 5 : Nat), .int .u64 (dgl (a % 2 ^ 10) 6 : Nat), .int .u64 (dgl (a % 2 ^ 10) 7 : Nat)]) ∧ Below w.heap.size w w' := by
  have hQ := q200
  have hq : a < QQ := by omega
  have hu : a / 2 ^ 10 < 2 ^ 6 := by
    rw [Nat.div_lt_iff_lt_mul (Nat.two_pow_pos _), ← Nat.pow_add]
    exact ha
  have h1 := fun w => wideShr_any a 10 10 (by decide) hq w
  have h2 := fun w => wideShl_any (a / 2 ^ 10) 10 (by omega) w
  rw [show roomI 10 = ((10 : Nat) : Int) by decide, sh_up] at h2
  have hle : a / 2 ^ 10 * 2 ^ 10 ≤ a := Nat.div_mul_le_self _ _
  have h3 := fun w => wideSub_any a (a / 2 ^ 10 * 2 ^ 10) hq (by omega) w
  have hm : a - a / 2 ^ 10 * 2 ^ 10 = a % 2 ^ 10 := by
    have := Nat.div_add_mod a (2 ^ 10)
    rw [Nat.mul_comm] at this
    omega
  rw [subQ_le hq hle, hm] at h3
  have h4 := fun w => wideBit_any a 15 hq (by decide) (by decide) w
  rw [show (15 : Int).toNat = 15 from rfl] at h4
  have h5 := and_mask (a / 2 ^ 10) 5 (by omega) (by decide)
  exact taken_walk (fun i => [16, 11, 15, -14, 5].getD i 0) a (a / 2 ^ 10) (a / 2 ^ 10 * 2 ^ 10) (a % 2 ^ 10) (2 ^ 5 - 1) (a / 2 ^ 10 % 2 ^ 5) (a / 2 ^ 15 % 2 == 1) _ _ (by decide +kernel) (by decide +kernel) h5 h1 h2 h3 h4 (fun w => ones_1 w) w

theorem taken_2 (a : Nat) (ha : a < 2 ^ 32) (w : World) : Calls Tryd.prog 95 #[.agg #[.int .i64 32, .int .i64 24, .int .i64 127, .int .i64 (-126), .int .i64 8], .agg #[.int .u64 (dgl (a) 0 : Nat), .int .u64 (dgl (a) 1 : Nat), .int .u64 (dgl (a) 2 : Nat), .int .u64 (dgl (a) 3 : Nat), .int .u64 (dgl (a) 4 : Nat), .int .u64 (dgl (a) 5 : Nat), .int .u64 (dgl (a) 6 : Nat), .int .u64 (dgl (a) 7 : Nat)]] w fun e w' => e = .returned (.agg #[.bool (a / 2 ^ 31 % 2 == 1), .int .i64 ((a / 2 ^ 23 % 2 ^ 8 : Nat)), .int .u64 (dgl (a % 2 ^ 23) 0 : Nat), .int .u64 (dgl (a % 2 ^ 23) 1 : Nat), .int .u64 (dgl (a % 2 ^ 23) 2 : Nat), .int .u64 (dgl (a % 2 ^ 23) 3 : Nat), .int .u64 (dgl (a % 2 ^ 23) 4 : Nat), .int .u64 (dgl (a % 2 ^ 23) 5 : Nat), .int .u64 (dgl (a % 2 ^ 23) 6 : Nat), .int .u64 (dgl (a % 2 ^ 23) 7 : Nat)]) ∧ Below w.heap.size w w' := by
  have hQ := q200
  have hq : a < QQ := by omega
  have hu : a / 2 ^ 23 < 2 ^ 9 := by
    rw [Nat.div_lt_iff_lt_mul (Nat.two_pow_pos _), ← Nat.pow_add]
    exact ha
  have h1 := fun w => wideShr_any a 23 23 (by decide) hq w
  have h2 := fun w => wideShl_any (a / 2 ^ 23) 23 (by omega) w
  rw [show roomI 23 = ((23 : Nat) : Int) by decide, sh_up] at h2
  have hle : a / 2 ^ 23 * 2 ^ 23 ≤ a := Nat.div_mul_le_self _ _
  have h3 := fun w => wideSub_any a (a / 2 ^ 23 * 2 ^ 23) hq (by omega) w
  have hm : a - a / 2 ^ 23 * 2 ^ 23 = a % 2 ^ 23 := by
    have := Nat.div_add_mod a (2 ^ 23)
    rw [Nat.mul_comm] at this
    omega
  rw [subQ_le hq hle, hm] at h3
  have h4 := fun w => wideBit_any a 31 hq (by decide) (by decide) w
  rw [show (31 : Int).toNat = 31 from rfl] at h4
  have h5 := and_mask (a / 2 ^ 23) 8 (by omega) (by decide)
  exact taken_walk (fun i => [32, 24, 127, -126, 8].getD i 0) a (a / 2 ^ 23) (a / 2 ^ 23 * 2 ^ 23) (a % 2 ^ 23) (2 ^ 8 - 1) (a / 2 ^ 23 % 2 ^ 8) (a / 2 ^ 31 % 2 == 1) _ _ (by decide +kernel) (by decide +kernel) h5 h1 h2 h3 h4 (fun w => ones_2 w) w

theorem taken_3 (a : Nat) (ha : a < 2 ^ 64) (w : World) : Calls Tryd.prog 95 #[.agg #[.int .i64 64, .int .i64 53, .int .i64 1023, .int .i64 (-1022), .int .i64 11], .agg #[.int .u64 (dgl (a) 0 : Nat), .int .u64 (dgl (a) 1 : Nat), .int .u64 (dgl (a) 2 : Nat), .int .u64 (dgl (a) 3 : Nat), .int .u64 (dgl (a) 4 : Nat), .int .u64 (dgl (a) 5 : Nat), .int .u64 (dgl (a) 6 : Nat), .int .u64 (dgl (a) 7 : Nat)]] w fun e w' => e = .returned (.agg #[.bool (a / 2 ^ 63 % 2 == 1), .int .i64 ((a / 2 ^ 52 % 2 ^ 11 : Nat)), .int .u64 (dgl (a % 2 ^ 52) 0 : Nat), .int .u64 (dgl (a % 2 ^ 52) 1 : Nat), .int .u64 (dgl (a % 2 ^ 52) 2 : Nat), .int .u64 (dgl (a % 2 ^ 52) 3 : Nat), .int .u64 (dgl (a % 2 ^ 52) 4 : Nat), .int .u64 (dgl (a % 2 ^ 52) 5 : Nat), .int .u64 (dgl (a % 2 ^ 52) 6 : Nat), .int .u64 (dgl (a % 2 ^ 52) 7 : Nat)]) ∧ Below w.heap.size w w' := by
  have hQ := q200
  have hq : a < QQ := by omega
  have hu : a / 2 ^ 52 < 2 ^ 12 := by
    rw [Nat.div_lt_iff_lt_mul (Nat.two_pow_pos _), ← Nat.pow_add]
    exact ha
  have h1 := fun w => wideShr_any a 52 52 (by decide) hq w
  have h2 := fun w => wideShl_any (a / 2 ^ 52) 52 (by omega) w
  rw [show roomI 52 = ((52 : Nat) : Int) by decide, sh_up] at h2
  have hle : a / 2 ^ 52 * 2 ^ 52 ≤ a := Nat.div_mul_le_self _ _
  have h3 := fun w => wideSub_any a (a / 2 ^ 52 * 2 ^ 52) hq (by omega) w
  have hm : a - a / 2 ^ 52 * 2 ^ 52 = a % 2 ^ 52 := by
    have := Nat.div_add_mod a (2 ^ 52)
    rw [Nat.mul_comm] at this
    omega
  rw [subQ_le hq hle, hm] at h3
  have h4 := fun w => wideBit_any a 63 hq (by decide) (by decide) w
  rw [show (63 : Int).toNat = 63 from rfl] at h4
  have h5 := and_mask (a / 2 ^ 52) 11 (by omega) (by decide)
  exact taken_walk (fun i => [64, 53, 1023, -1022, 11].getD i 0) a (a / 2 ^ 52) (a / 2 ^ 52 * 2 ^ 52) (a % 2 ^ 52) (2 ^ 11 - 1) (a / 2 ^ 52 % 2 ^ 11) (a / 2 ^ 63 % 2 == 1) _ _ (by decide +kernel) (by decide +kernel) h5 h1 h2 h3 h4 (fun w => ones_3 w) w

theorem taken_4 (a : Nat) (ha : a < 2 ^ 128) (w : World) : Calls Tryd.prog 95 #[.agg #[.int .i64 128, .int .i64 113, .int .i64 16383, .int .i64 (-16382), .int .i64 15], .agg #[.int .u64 (dgl (a) 0 : Nat), .int .u64 (dgl (a) 1 : Nat), .int .u64 (dgl (a) 2 : Nat), .int .u64 (dgl (a) 3 : Nat), .int .u64 (dgl (a) 4 : Nat), .int .u64 (dgl (a) 5 : Nat), .int .u64 (dgl (a) 6 : Nat), .int .u64 (dgl (a) 7 : Nat)]] w fun e w' => e = .returned (.agg #[.bool (a / 2 ^ 127 % 2 == 1), .int .i64 ((a / 2 ^ 112 % 2 ^ 15 : Nat)), .int .u64 (dgl (a % 2 ^ 112) 0 : Nat), .int .u64 (dgl (a % 2 ^ 112) 1 : Nat), .int .u64 (dgl (a % 2 ^ 112) 2 : Nat), .int .u64 (dgl (a % 2 ^ 112) 3 : Nat), .int .u64 (dgl (a % 2 ^ 112) 4 : Nat), .int .u64 (dgl (a % 2 ^ 112) 5 : Nat), .int .u64 (dgl (a % 2 ^ 112) 6 : Nat), .int .u64 (dgl (a % 2 ^ 112) 7 : Nat)]) ∧ Below w.heap.size w w' := by
  have hQ := q200
  have hq : a < QQ := by omega
  have hu : a / 2 ^ 112 < 2 ^ 16 := by
    rw [Nat.div_lt_iff_lt_mul (Nat.two_pow_pos _), ← Nat.pow_add]
    exact ha
  have h1 := fun w => wideShr_any a 112 112 (by decide) hq w
  have h2 := fun w => wideShl_any (a / 2 ^ 112) 112 (by omega) w
  rw [show roomI 112 = ((112 : Nat) : Int) by decide, sh_up] at h2
  have hle : a / 2 ^ 112 * 2 ^ 112 ≤ a := Nat.div_mul_le_self _ _
  have h3 := fun w => wideSub_any a (a / 2 ^ 112 * 2 ^ 112) hq (by omega) w
  have hm : a - a / 2 ^ 112 * 2 ^ 112 = a % 2 ^ 112 := by
    have := Nat.div_add_mod a (2 ^ 112)
    rw [Nat.mul_comm] at this
    omega
  rw [subQ_le hq hle, hm] at h3
  have h4 := fun w => wideBit_any a 127 hq (by decide) (by decide) w
  rw [show (127 : Int).toNat = 127 from rfl] at h4
  have h5 := and_mask (a / 2 ^ 112) 15 (by omega) (by decide)
  exact taken_walk (fun i => [128, 113, 16383, -16382, 15].getD i 0) a (a / 2 ^ 112) (a / 2 ^ 112 * 2 ^ 112) (a % 2 ^ 112) (2 ^ 15 - 1) (a / 2 ^ 112 % 2 ^ 15) (a / 2 ^ 127 % 2 == 1) _ _ (by decide +kernel) (by decide +kernel) h5 h1 h2 h3 h4 (fun w => ones_4 w) w

set_option maxHeartbeats 1000000 in
theorem asked_int_no (f : Int) (hi lo : Nat) (fv : Value)
    (HFI : Hid (∀ w, FmtG w → Calls Tryd.prog 94 #[.int .i64 f, .agg #[.int .u64 (hi : Nat), .int .u64 (lo : Nat)]] w fun e w' => e = .returned (.bool false) ∧ Below w.heap.size w w')) (w : World) (hg : FmtG w) :
    Calls Tryd.prog 50 #[.int .i64 f, .agg #[.int .u64 (hi : Nat), .int .u64 (lo : Nat)], fv] w fun e w' => e = .returned (.int .i64 0) ∧ Below w.heap.size w w' := by
  have HST := hide (fitSt_start hi lo w)
  have HG := hide (hg.below HST.out.bel)
  clear hg
  go_enter Tryd.func50, Tryd.ntmps50
  go_wp2_with fail
  refine (HFI.out _ HG.out).mono ?_
  rintro e w1 ⟨rfl, hb1⟩
  have HB := hide (HST.out.below hb1).bel
  clear HST HG hb1
  go_wp2
  go_ret
  exact ⟨rfl, HB.out⟩

set_option maxHeartbeats 1000000 in
theorem asked_int (f : Int) (hi lo a fd r : Nat) (ng : Bool) (k : Nat → Int) (fid : Nat) (x : Int) (hent : ∀ args w, (callFunc fid args).run Tryd.prog w = .ok (.enter fid args) w)
    (HFI : Hid (∀ w, FmtG w → Calls Tryd.prog 94 #[.int .i64 f, .agg #[.int .u64 (hi : Nat), .int .u64 (lo : Nat)]] w fun e w' => e = .returned (.bool true) ∧ Below w.heap.size w w'))
    (HO : Hid (∀ w, FmtG w → Calls Tryd.prog 66 #[.int .i64 f] w fun e w' => e = .returned (.tuple #[.agg #[.int .i64 (k 0), .int .i64 (k 1), .int .i64 (k 2), .int .i64 (k 3), .int .i64 (k 4)], .bool true]) ∧ Below w.heap.size w w'))
    (HFR : Hid (∀ w, Calls Tryd.prog 71 #[.agg #[.int .u64 (hi : Nat), .int .u64 (lo : Nat)]] w fun e w' => e = .returned (.agg #[.int .u64 (dgl (a) 0 : Nat), .int .u64 (dgl (a) 1 : Nat), .int .u64 (dgl (a) 2 : Nat), .int .u64 (dgl (a) 3 : Nat), .int .u64 (dgl (a) 4 : Nat), .int .u64 (dgl (a) 5 : Nat), .int .u64 (dgl (a) 6 : Nat), .int .u64 (dgl (a) 7 : Nat)]) ∧ Below w.heap.size w w'))
    (HTK : Hid (∀ w, Calls Tryd.prog 95 #[.agg #[.int .i64 (k 0), .int .i64 (k 1), .int .i64 (k 2), .int .i64 (k 3), .int .i64 (k 4)], .agg #[.int .u64 (dgl (a) 0 : Nat), .int .u64 (dgl (a) 1 : Nat), .int .u64 (dgl (a) 2 : Nat), .int .u64 (dgl (a) 3 : Nat), .int .u64 (dgl (a) 4 : Nat), .int .u64 (dgl (a) 5 : Nat), .int .u64 (dgl (a) 6 : Nat), .int .u64 (dgl (a) 7 : Nat)]] w fun e w' => e = .returned (.agg #[.bool ng, .int .i64 ((fd : Nat)), .int .u64 (dgl r 0 : Nat), .int .u64 (dgl r 1 : Nat), .int .u64 (dgl r 2 : Nat), .int .u64 (dgl r 3 : Nat), .int .u64 (dgl r 4 : Nat), .int .u64 (dgl r 5 : Nat), .int .u64 (dgl r 6 : Nat), .int .u64 (dgl r 7 : Nat)]) ∧ Below w.heap.size w w'))
    (HT : Hid (∀ w, Calls Tryd.prog fid #[.agg #[.int .i64 (k 0), .int .i64 (k 1), .int .i64 (k 2), .int .i64 (k 3), .int .i64 (k 4)], .agg #[.bool ng, .int .i64 ((fd : Nat)), .int .u64 (dgl r 0 : Nat), .int .u64 (dgl r 1 : Nat), .int .u64 (dgl r 2 : Nat), .int .u64 (dgl r 3 : Nat), .int .u64 (dgl r 4 : Nat), .int .u64 (dgl r 5 : Nat), .int .u64 (dgl r 6 : Nat), .int .u64 (dgl r 7 : Nat)]] w fun e w' => e = .returned (.int .i64 x) ∧ Below w.heap.size w w')) (w : World) (hg : FmtG w) :
    Calls Tryd.prog 50 #[.int .i64 f, .agg #[.int .u64 (hi : Nat), .int .u64 (lo : Nat)], .func (.func fid) #[] #[]] w fun e w' => e = .returned (.int .i64 x) ∧ Below w.heap.size w w' := by
  have HST := hide (fitSt_start hi lo w)
  have HG := hide (hg.below HST.out.bel)
  clear hg
  go_enter Tryd.func50, Tryd.ntmps50
  go_wp2_with fail
  refine (HFI.out _ HG.out).mono ?_
  rintro e w1 ⟨rfl, hb1⟩
  replace HST := hide (HST.out.below hb1)
  replace HG := hide (HG.out.below hb1)
  clear hb1
  go_wp2_with fail
  refine (HO.out _ HG.out).mono ?_
  rintro e w2 ⟨rfl, hb2⟩
  have HS2 := hide (fit2St_start hi lo k w w2 (HST.out.below hb2))
  clear HST hb2 HG
  go_upto_region 5 with fail
  refine wp_gen (fun W => Fit2St w2.heap.size hi lo w k W) HS2.out ?_
  clear HS2
  rintro W1 h1
  generalize w2.heap.size = p at *
  refine wp_region_grow 7 [(20, .val (.func (.func fid) #[] #[])), (21, .val (.agg #[.int .i64 (k 0), .int .i64 (k 1), .int .i64 (k 2), .int .i64 (k 3), .int .i64 (k 4)])), (22, .val (.agg #[.int .i64 (k 0), .int .i64 (k 1), .int .i64 (k 2), .int .i64 (k 3), .int .i64 (k 4)])), (23, .val (.agg #[.int .u64 (hi : Nat), .int .u64 (lo : Nat)])), (24, .val (.agg #[.int .u64 (dgl (a) 0 : Nat), .int .u64 (dgl (a) 1 : Nat), .int .u64 (dgl (a) 2 : Nat), .int .u64 (dgl (a) 3 : Nat), .int .u64 (dgl (a) 4 : Nat), .int .u64 (dgl (a) 5 : Nat), .int .u64 (dgl (a) 6 : Nat), .int .u64 (dgl (a) 7 : Nat)])), (25, .val (.agg #[.bool ng, .int .i64 ((fd : Nat)), .int .u64 (dgl r 0 : Nat), .int .u64 (dgl r 1 : Nat), .int .u64 (dgl r 2 : Nat), .int .u64 (dgl r 3 : Nat), .int .u64 (dgl r 4 : Nat), .int .u64 (dgl r 5 : Nat), .int .u64 (dgl r 6 : Nat), .int .u64 (dgl r 7 : Nat)])), (26, .val (.int .i64 x))]
    (fun W => Fit2St p hi lo w k W) mixedOk (by kernel_rfl) (by kernel_rfl) (h1.below (Below.refl _ _).drew) (fun W W' h hb => h.below hb) ?_ ?_
  · refine gSt (gStep_run rfl (gRun_move 2 20 (.inl rfl) rfl (by decide +kernel) (fun v w h => h))) ?_
    refine gSt (gStep_run rfl ?_) ?_
    · intro ρ W hC hc hf hL
      have e8 : ρ (.tmp 8) = .pointer (some ⟨p, 0, none⟩) := hL 8 (by decide +kernel)
      have g0 := hC.rk 0 (by decide)
      have g1 := hC.rk 1 (by decide)
      have g2 := hC.rk 2 (by decide)
      have g3 := hC.rk 3 (by decide)
      have g4 := hC.rk 4 (by decide)
      simp [go_sem, hc, hf, e8, g0, g1, g2, g3, g4]
      exact ⟨Below.refl _ _, rfl⟩
    refine gSt (gStep_run rfl ?_) ?_
    · intro ρ W hC hc hf hL
      have e8 : ρ (.tmp 8) = .pointer (some ⟨p, 0, none⟩) := hL 8 (by decide +kernel)
      have g0 := hC.rk 0 (by decide)
      have g1 := hC.rk 1 (by decide)
      have g2 := hC.rk 2 (by decide)
      have g3 := hC.rk 3 (by decide)
      have g4 := hC.rk 4 (by decide)
      simp [go_sem, hc, hf, e8, g0, g1, g2, g3, g4]
      exact ⟨Below.refl _ _, rfl⟩
    refine gSt (gStep_run rfl ?_) ?_
    · intro ρ W hC hc hf hL
      have e4 : ρ (.tmp 4) = .pointer (some ⟨w.heap.size, 0, none⟩) := hL 4 (by decide +kernel)
      have l0 := hC.s.h
      have l1 := hC.s.l
      simp [go_sem, hc, hf, e4, l0, l1]
      exact ⟨Below.refl _ _, rfl⟩
    refine gSt (gStep_run rfl ?_) ?_
    · intro ρ W hC hc hf hL
      have e23 : ρ (.tmp 23) = .agg #[.int .u64 (hi : Nat), .int .u64 (lo : Nat)] := hL 23 (by decide +kernel)
      simp [go_sem, hc, hf, e23]
      refine (HFR.out W).mono ?_
      rintro e w' ⟨rfl, hb⟩
      exact ⟨_, rfl, by first | exact hb | (subst hb; exact Below.refl _ _), rfl⟩
    refine gSt (gStep_run rfl ?_) ?_
    · intro ρ W hC hc hf hL
      have e22 : ρ (.tmp 22) = .agg #[.int .i64 (k 0), .int .i64 (k 1), .int .i64 (k 2), .int .i64 (k 3), .int .i64 (k 4)] := hL 22 (by decide +kernel)
      have e24 : ρ (.tmp 24) = .agg #[.int .u64 (dgl (a) 0 : Nat), .int .u64 (dgl (a) 1 : Nat), .int .u64 (dgl (a) 2 : Nat), .int .u64 (dgl (a) 3 : Nat), .int .u64 (dgl (a) 4 : Nat), .int .u64 (dgl (a) 5 : Nat), .int .u64 (dgl (a) 6 : Nat), .int .u64 (dgl (a) 7 : Nat)] := hL 24 (by decide +kernel)
      simp [go_sem, hc, hf, e22, e24]
      refine (HTK.out W).mono ?_
      rintro e w' ⟨rfl, hb⟩
      exact ⟨_, rfl, by first | exact hb | (subst hb; exact Below.refl _ _), rfl⟩
    refine gSt (gStep_run rfl ?_) ?_
    · intro ρ W hC hc hf hL
      have e20 : ρ (.tmp 20) = .func (.func fid) #[] #[] := hL 20 (by decide +kernel)
      have e21 : ρ (.tmp 21) = .agg #[.int .i64 (k 0), .int .i64 (k 1), .int .i64 (k 2), .int .i64 (k 3), .int .i64 (k 4)] := hL 21 (by decide +kernel)
      have e25 : ρ (.tmp 25) = .agg #[.bool ng, .int .i64 ((fd : Nat)), .int .u64 (dgl r 0 : Nat), .int .u64 (dgl r 1 : Nat), .int .u64 (dgl r 2 : Nat), .int .u64 (dgl r 3 : Nat), .int .u64 (dgl r 4 : Nat), .int .u64 (dgl r 5 : Nat), .int .u64 (dgl r 6 : Nat), .int .u64 (dgl r 7 : Nat)] := hL 25 (by decide +kernel)
      simp [go_sem, hc, hf, e20, e21, e25, hent]
      refine (HT.out W).mono ?_
      rintro e w' ⟨rfl, hb⟩
      exact ⟨_, rfl, by first | exact hb | (subst hb; exact Below.refl _ _), rfl⟩
    exact gSt0
  · intro W hC
    refine gFi 20 rfl ?_
    rintro _ rfl
    refine gFi 21 rfl ?_
    rintro _ rfl
    refine gFi 22 rfl ?_
    rintro _ rfl
    refine gFi 23 rfl ?_
    rintro _ rfl
    refine gFi 24 rfl ?_
    rintro _ rfl
    refine gFi 25 rfl ?_
    rintro _ rfl
    refine gFi 26 rfl ?_
    rintro _ rfl
    refine gFi0 ?_
    simp only [List.drop_succ_cons, List.drop_zero, Act.put, List.setIfInBounds_toArray, List.set_cons_succ, List.set_cons_zero]
    have HB := hide hC.s.bel
    clear hC h1
    go_wp2
    go_ret
    exact ⟨rfl, HB.out⟩

set_option maxHeartbeats 1000000 in
theorem asked_bool_no (f : Int) (hi lo : Nat) (fv : Value)
    (HFI : Hid (∀ w, FmtG w → Calls Tryd.prog 94 #[.int .i64 f, .agg #[.int .u64 (hi : Nat), .int .u64 (lo : Nat)]] w fun e w' => e = .returned (.bool false) ∧ Below w.heap.size w w')) (w : World) (hg : FmtG w) :
    Calls Tryd.prog 54 #[.int .i64 f, .agg #[.int .u64 (hi : Nat), .int .u64 (lo : Nat)], fv] w fun e w' => e = .returned (.bool false) ∧ Below w.heap.size w w' := by
  have HST := hide (fitSt_start hi lo w)
  have HG := hide (hg.below HST.out.bel)
  clear hg
  go_enter Tryd.func54, Tryd.ntmps54
  go_wp2_with fail
  refine (HFI.out _ HG.out).mono ?_
  rintro e w1 ⟨rfl, hb1⟩
  have HB := hide (HST.out.below hb1).bel
  clear HST HG hb1
  go_wp2
  go_ret
  exact ⟨rfl, HB.out⟩

set_option maxHeartbeats 1000000 in
theorem asked_bool (f : Int) (hi lo a fd r : Nat) (ng : Bool) (k : Nat → Int) (fid : Nat) (x : Bool) (hent : ∀ args w, (callFunc fid args).run Tryd.prog w = .ok (.enter fid args) w)
    (HFI : Hid (∀ w, FmtG w → Calls Tryd.prog 94 #[.int .i64 f, .agg #[.int .u64 (hi : Nat), .int .u64 (lo : Nat)]] w fun e w' => e = .returned (.bool true) ∧ Below w.heap.size w w'))
    (HO : Hid (∀ w, FmtG w → Calls Tryd.prog 66 #[.int .i64 f] w fun e w' => e = .returned (.tuple #[.agg #[.int .i64 (k 0), .int .i64 (k 1), .int .i64 (k 2), .int .i64 (k 3), .int .i64 (k 4)], .bool true]) ∧ Below w.heap.size w w'))
    (HFR : Hid (∀ w, Calls Tryd.prog 71 #[.agg #[.int .u64 (hi : Nat), .int .u64 (lo : Nat)]] w fun e w' => e = .returned (.agg #[.int .u64 (dgl (a) 0 : Nat), .int .u64 (dgl (a) 1 : Nat), .int .u64 (dgl (a) 2 : Nat), .int .u64 (dgl (a) 3 : Nat), .int .u64 (dgl (a) 4 : Nat), .int .u64 (dgl (a) 5 : Nat), .int .u64 (dgl (a) 6 : Nat), .int .u64 (dgl (a) 7 : Nat)]) ∧ Below w.heap.size w w'))
    (HTK : Hid (∀ w, Calls Tryd.prog 95 #[.agg #[.int .i64 (k 0), .int .i64 (k 1), .int .i64 (k 2), .int .i64 (k 3), .int .i64 (k 4)], .agg #[.int .u64 (dgl (a) 0 : Nat), .int .u64 (dgl (a) 1 : Nat), .int .u64 (dgl (a) 2 : Nat), .int .u64 (dgl (a) 3 : Nat), .int .u64 (dgl (a) 4 : Nat), .int .u64 (dgl (a) 5 : Nat), .int .u64 (dgl (a) 6 : Nat), .int .u64 (dgl (a) 7 : Nat)]] w fun e w' => e = .returned (.agg #[.bool ng, .int .i64 ((fd : Nat)), .int .u64 (dgl r 0 : Nat), .int .u64 (dgl r 1 : Nat), .int .u64 (dgl r 2 : Nat), .int .u64 (dgl r 3 : Nat), .int .u64 (dgl r 4 : Nat), .int .u64 (dgl r 5 : Nat), .int .u64 (dgl r 6 : Nat), .int .u64 (dgl r 7 : Nat)]) ∧ Below w.heap.size w w'))
    (HT : Hid (∀ w, Calls Tryd.prog fid #[.agg #[.int .i64 (k 0), .int .i64 (k 1), .int .i64 (k 2), .int .i64 (k 3), .int .i64 (k 4)], .agg #[.bool ng, .int .i64 ((fd : Nat)), .int .u64 (dgl r 0 : Nat), .int .u64 (dgl r 1 : Nat), .int .u64 (dgl r 2 : Nat), .int .u64 (dgl r 3 : Nat), .int .u64 (dgl r 4 : Nat), .int .u64 (dgl r 5 : Nat), .int .u64 (dgl r 6 : Nat), .int .u64 (dgl r 7 : Nat)]] w fun e w' => e = .returned (.bool x) ∧ Below w.heap.size w w')) (w : World) (hg : FmtG w) :
    Calls Tryd.prog 54 #[.int .i64 f, .agg #[.int .u64 (hi : Nat), .int .u64 (lo : Nat)], .func (.func fid) #[] #[]] w fun e w' => e = .returned (.bool x) ∧ Below w.heap.size w w' := by
  have HST := hide (fitSt_start hi lo w)
  have HG := hide (hg.below HST.out.bel)
  clear hg
  go_enter Tryd.func54, Tryd.ntmps54
  go_wp2_with fail
  refine (HFI.out _ HG.out).mono ?_
  rintro e w1 ⟨rfl, hb1⟩
  replace HST := hide (HST.out.below hb1)
  replace HG := hide (HG.out.below hb1)
  clear hb1
  go_wp2_with fail
  refine (HO.out _ HG.out).mono ?_
  rintro e w2 ⟨rfl, hb2⟩
  have HS2 := hide (fit2St_start hi lo k w w2 (HST.out.below hb2))
  clear HST hb2 HG
  go_upto_region 5 with fail
  refine wp_gen (fun W => Fit2St w2.heap.size hi lo w k W) HS2.out ?_
  clear HS2
  rintro W1 h1
  generalize w2.heap.size = p at *
  refine wp_region_grow 7 [(20, .val (.func (.func fid) #[] #[])), (21, .val (.agg #[.int .i64 (k 0), .int .i64 (k 1), .int .i64 (k 2), .int .i64 (k 3), .int .i64 (k 4)])), (22, .val (.agg #[.int .i64 (k 0), .int .i64 (k 1), .int .i64 (k 2), .int .i64 (k 3), .int .i64 (k 4)])), (23, .val (.agg #[.int .u64 (hi : Nat), .int .u64 (lo : Nat)])), (24, .val (.agg #[.int .u64 (dgl (a) 0 : Nat), .int .u64 (dgl (a) 1 : Nat), .int .u64 (dgl (a) 2 : Nat), .int .u64 (dgl (a) 3 : Nat), .int .u64 (dgl (a) 4 : Nat), .int .u64 (dgl (a) 5 : Nat), .int .u64 (dgl (a) 6 : Nat), .int .u64 (dgl (a) 7 : Nat)])), (25, .val (.agg #[.bool ng, .int .i64 ((fd : Nat)), .int .u64 (dgl r 0 : Nat), .int .u64 (dgl r 1 : Nat), .int .u64 (dgl r 2 : Nat), .int .u64 (dgl r 3 : Nat), .int .u64 (dgl r 4 : Nat), .int .u64 (dgl r 5 : Nat), .int .u64 (dgl r 6 : Nat), .int .u64 (dgl r 7 : Nat)])), (26, .val (.bool x))]
    (fun W => Fit2St p hi lo w k W) mixedOk (by kernel_rfl) (by kernel_rfl) (h1.below (Below.refl _ _).drew) (fun W W' h hb => h.below hb) ?_ ?_
  · refine gSt (gStep_run rfl (gRun_move 2 20 (.inl rfl) rfl (by decide +kernel) (fun v w h => h))) ?_
    refine gSt (gStep_run rfl ?_) ?_
    · intro ρ W hC hc hf hL
      have e8 : ρ (.tmp 8) = .pointer (some ⟨p, 0, none⟩) := hL 8 (by decide +kernel)
      have g0 := hC.rk 0 (by decide)
      have g1 := hC.rk 1 (by decide)
      have g2 := hC.rk 2 (by decide)
      have g3 := hC.rk 3 (by decide)
      have g4 := hC.rk 4 (by decide)
      simp [go_sem, hc, hf, e8, g0, g1, g2, g3, g4]
      exact ⟨Below.refl _ _, rfl⟩
    refine gSt (gStep_run rfl ?_) ?_
    · intro ρ W hC hc hf hL
      have e8 : ρ (.tmp 8) = .pointer (some ⟨p, 0, none⟩) := hL 8 (by decide +kernel)
      have g0 := hC.rk 0 (by decide)
      have g1 := hC.rk 1 (by decide)
      have g2 := hC.rk 2 (by decide)
      have g3 := hC.rk 3 (by decide)
      have g4 := hC.rk 4 (by decide)
      simp [go_sem, hc, hf, e8, g0, g1, g2, g3, g4]
      exact ⟨Below.refl _ _, rfl⟩
    refine gSt (gStep_run rfl ?_) ?_
    · intro ρ W hC hc hf hL
      have e4 : ρ (.tmp 4) = .pointer (some ⟨w.heap.size, 0, none⟩) := hL 4 (by decide +kernel)
      have l0 := hC.s.h
      have l1 := hC.s.l
      simp [go_sem, hc, hf, e4, l0, l1]
      exact ⟨Below.refl _ _, rfl⟩
    refine gSt (gStep_run rfl ?_) ?_
    · intro ρ W hC hc hf hL
      have e23 : ρ (.tmp 23) = .agg #[.int .u64 (hi : Nat), .int .u64 (lo : Nat)] := hL 23 (by decide +kernel)
      simp [go_sem, hc, hf, e23]
      refine (HFR.out W).mono ?_
      rintro e w' ⟨rfl, hb⟩
      exact ⟨_, rfl, by first | exact hb | (subst hb; exact Below.refl _ _), rfl⟩
    refine gSt (gStep_run rfl ?_) ?_
    · intro ρ W hC hc hf hL
      have e22 : ρ (.tmp 22) = .agg #[.int .i64 (k 0), .int .i64 (k 1), .int .i64 (k 2), .int .i64 (k 3), .int .i64 (k 4)] := hL 22 (by decide +kernel)
      have e24 : ρ (.tmp 24) = .agg #[.int .u64 (dgl (a) 0 : Nat), .int .u64 (dgl (a) 1 : Nat), .int .u64 (dgl (a) 2 : Nat), .int .u64 (dgl (a) 3 : Nat), .int .u64 (dgl (a) 4 : Nat), .int .u64 (dgl (a) 5 : Nat), .int .u64 (dgl (a) 6 : Nat), .int .u64 (dgl (a) 7 : Nat)] := hL 24 (by decide +kernel)
      simp [go_sem, hc, hf, e22, e24]
      refine (HTK.out W).mono ?_
      rintro e w' ⟨rfl, hb⟩
      exact ⟨_, rfl, by first | exact hb | (subst hb; exact Below.refl _ _), rfl⟩
    refine gSt (gStep_run rfl ?_) ?_
    · intro ρ W hC hc hf hL
      have e20 : ρ (.tmp 20) = .func (.func fid) #[] #[] := hL 20 (by decide +kernel)
      have e21 : ρ (.tmp 21) = .agg #[.int .i64 (k 0), .int .i64 (k 1), .int .i64 (k 2), .int .i64 (k 3), .int .i64 (k 4)] := hL 21 (by decide +kernel)
      have e25 : ρ (.tmp 25) = .agg #[.bool ng, .int .i64 ((fd : Nat)), .int .u64 (dgl r 0 : Nat), .int .u64 (dgl r 1 : Nat), .int .u64 (dgl r 2 : Nat), .int .u64 (dgl r 3 : Nat), .int .u64 (dgl r 4 : Nat), .int .u64 (dgl r 5 : Nat), .int .u64 (dgl r 6 : Nat), .int .u64 (dgl r 7 : Nat)] := hL 25 (by decide +kernel)
      simp [go_sem, hc, hf, e20, e21, e25, hent]
      refine (HT.out W).mono ?_
      rintro e w' ⟨rfl, hb⟩
      exact ⟨_, rfl, by first | exact hb | (subst hb; exact Below.refl _ _), rfl⟩
    exact gSt0
  · intro W hC
    refine gFi 20 rfl ?_
    rintro _ rfl
    refine gFi 21 rfl ?_
    rintro _ rfl
    refine gFi 22 rfl ?_
    rintro _ rfl
    refine gFi 23 rfl ?_
    rintro _ rfl
    refine gFi 24 rfl ?_
    rintro _ rfl
    refine gFi 25 rfl ?_
    rintro _ rfl
    refine gFi 26 rfl ?_
    rintro _ rfl
    refine gFi0 ?_
    simp only [List.drop_succ_cons, List.drop_zero, Act.put, List.setIfInBounds_toArray, List.set_cons_succ, List.set_cons_zero]
    have HB := hide hC.s.bel
    clear hC h1
    go_wp2
    go_ret
    exact ⟨rfl, HB.out⟩

end Go.Proofs.YtidfegilddlglaaDoor

