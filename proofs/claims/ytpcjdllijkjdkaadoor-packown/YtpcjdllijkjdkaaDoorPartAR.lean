/- Contracts and laws: ClsB, ClsC, ClsD, ClsE. -/
import Derived.Test.YtpcjdllijkjdkaaDoorPartAQ
import Derived.Laws.BitsLemmas
/- Contracts: class.taken with its numbers; class.asked for ints and bools. -/
set_option linter.unusedVariables false
set_option linter.unusedSimpArgs false
set_option maxRecDepth 8000
namespace Go.Proofs.YtpcjdllijkjdkaaDoor
open Go.RowKit Plain

theorem subQ_le {a v : Nat} (ha : a < QQ) (h : v ≤ a) : subQ a v = a - v := by
  have h1 : subQ a v + v % QQ = a % QQ + QQ * bor 18446744073709551616 a v 8 := subW_eq (by decide) 8 a v
  have h2 := subQ_lt a v
  rw [Nat.mod_eq_of_lt ha, Nat.mod_eq_of_lt (Nat.lt_of_le_of_lt h ha)] at h1
  rcases Nat.eq_zero_or_pos (bor 18446744073709551616 a v 8) with h3 | h3
  · rw [h3, Nat.mul_zero] at h1
    omega
  · have h4 : QQ * 1 ≤ QQ * bor 18446744073709551616 a v 8 := Nat.mul_le_mul_left _ h3
    omega
theorem and_mask (u F : Nat) (hu : u < 4294967296) (hF : F ≤ 20) : bits .and .i64 (IntKind.i64.wrap (dgl u 0 : Nat)) ((2 ^ F - 1 : Nat) : Int) = ((u % 2 ^ F : Nat) : Int) := by
  have e : IntKind.i64.wrap (dgl u 0 : Nat) = (u : Int) := by rw [IntKind.wrap_i64, dgl0]; omega
  have h2 : 2 ^ F ≤ 2 ^ 20 := Nat.pow_le_pow_right (by decide) hF
  have h3 := Nat.two_pow_pos F
  rw [e, (bits_nat .i64 40 (by decide) (fun n h0 h1 => by rw [IntKind.wrap_i64]; omega) u (2 ^ F - 1) (by omega) (by omega)).1, Nat.and_two_pow_sub_one_eq_mod]

theorem taken_1 (a : Nat) (ha : a < 2 ^ 16) (w : World) : Calls Tryd.prog 156 #[.agg #[.int .i64 16, .int .i64 11, .int .i64 15, .int .i64 (-14), .int .i64 5], .agg #[.int .u64 (dgl (a) 0 : Nat), .int .u64 (dgl (a) 1 : Nat), .int .u64 (dgl (a) 2 : Nat), .int .u64 (dgl (a) 3 : Nat), .int .u64 (dgl (a) 4 : Nat), .int .u64 (dgl (a) 5 : Nat), .int .u64 (dgl (a) 6 : Nat), .int .u64 (dgl (a) 7 : Nat)]] w fun e w' => e = .returned (.agg #[.bool (a / 2 ^ 15 % 2 == 1), .int .i64 ((a / 2 ^ 10 % 2 ^ 5 : Nat)), .int .u64 (dgl (a % 2 ^ 10) 0 : Nat), .int .u64 (dgl (a % 2 ^ 10) 1 : Nat), .int .u64 (dgl (a % 2 ^ 10) 2 : Nat), .int .u64 (dgl (a % 2 ^ 10) 3 : Nat), .int .u64 (dgl (a % 2 ^ 10) 4 : Nat), .int .u64 (dgl (a % 2 ^ 10) 5 : Nat), .int .u64 (dgl (a % 2 ^ 10) 6 : Nat), .int .u64 (dgl (a % 2 ^ 10) 7 : Nat)]) ∧ Below w.heap.size w w' := by
  have hQ := q200
  have hq : a < QQ := by omega
  have hu : a / 2 ^ 10 < 2 ^ 6 := by
    rw [Nat.div_lt_iff_lt_mul (Nat.two_pow_pos _), ← Nat.pow_add]
    exact ha
  have h1 := fun w => wideShr_any a 10 10 (by decide) hq w
  have h2 := fun w => wideShl_any (a / 2 ^ 10) 10 (by omega) w
  rw [show roomI 10 = ((10 : Nat) : Int) by decide, sh_up] at h2
  have hle : a / 2 ^ 10 * 2 ^ 10 ≤ a := Nat.div_mul_le_self _ _
  have h3 := fun w => wideSub_any a (a / 2 ^ 10 * 2 ^ 10) hq (by omega) w
  have hm : a - a / 2 ^ 10 * 2 ^ 10 = a % 2 ^ 10 := by
    have := Nat.div_add_mod a (2 ^ 10)
    rw [Nat.mul_comm] at this
    omega
  rw [subQ_le hq hle, hm] at h3
  have h4 := fun w => wideBit_any a 15 hq (by decide) (by decide) w
  rw [show (15 : Int).toNat = 15 from rfl] at h4
  have h5 := and_mask (a / 2 ^ 10) 5 (by omega) (by decide)
  exact taken_walk (fun i => [16, 11, 15, -14, 5].getD i 0) a (a / 2 ^ 10) (a / 2 ^ 10 * 2 ^ 10) (a % 2 ^ 10) (2 ^ 5 - 1) (a / 2 ^ 10 % 2 ^ 5) (a / 2 ^ 15 % 2 == 1) _ _ (by decide +kernel) (by decide +kernel) h5 h1 h2 h3 h4 (fun w => ones_1 w) w

theorem taken_2 (a : Nat) (ha : a < 2 ^ 32) (w : World) : Calls Tryd.prog 156 #[.agg #[.int .i64 32, .int .i64 24, .int .i64 127, .int .i64 (-126), .int .i64 8], .agg #[.int .u64 (dgl (a) 0 : Nat), .int .u64 (dgl (a) 1 : Nat), .int .u64 (dgl (a) 2 : Nat), .int .u64 (dgl (a) 3 : Nat), .int .u64 (dgl (a) 4 : Nat), .int .u64 (dgl (a) 5 : Nat), .int .u64 (dgl (a) 6 : Nat), .int .u64 (dgl (a) 7 : Nat)]] w fun e w' => e = .returned (.agg #[.bool (a / 2 ^ 31 % 2 == 1), .int .i64 ((a / 2 ^ 23 % 2 ^ 8 : Nat)), .int .u64 (dgl (a % 2 ^ 23) 0 : Nat), .int .u64 (dgl (a % 2 ^ 23) 1 : Nat), .int .u64 (dgl (a % 2 ^ 23) 2 : Nat), .int .u64 (dgl (a % 2 ^ 23) 3 : Nat), .int .u64 (dgl (a % 2 ^ 23) 4 : Nat), .int .u64 (dgl (a % 2 ^ 23) 5 : Nat), .int .u64 (dgl (a % 2 ^ 23) 6 : Nat), .int .u64 (dgl (a % 2 ^ 23) 7 : Nat)]) ∧ Below w.heap.size w w' := by
  have hQ := q200
  have hq : a < QQ := by omega
  have hu : a / 2 ^ 23 < 2 ^ 9 := by
    rw [Nat.div_lt_iff_lt_mul (Nat.two_pow_pos _), ← Nat.pow_add]
    exact ha
  have h1 := fun w => wideShr_any a 23 23 (by decide) hq w
  have h2 := fun w => wideShl_any (a / 2 ^ 23) 23 (by omega) w
  rw [show roomI 23 = ((23 : Nat) : Int) by decide, sh_up] at h2
  have hle : a / 2 ^ 23 * 2 ^ 23 ≤ a := Nat.div_mul_le_self _ _
  have h3 := fun w => wideSub_any a (a / 2 ^ 23 * 2 ^ 23) hq (by omega) w
  have hm : a - a / 2 ^ 23 * 2 ^ 23 = a % 2 ^ 23 := by
    have := Nat.div_add_mod a (2 ^ 23)
    rw [Nat.mul_comm] at this
    omega
  rw [subQ_le hq hle, hm] at h3
  have h4 := fun w => wideBit_any a 31 hq (by decide) (by decide) w
  rw [show (31 : Int).toNat = 31 from rfl] at h4
  have h5 := and_mask (a / 2 ^ 23) 8 (by omega) (by decide)
  exact taken_walk (fun i => [32, 24, 127, -126, 8].getD i 0) a (a / 2 ^ 23) (a / 2 ^ 23 * 2 ^ 23) (a % 2 ^ 23) (2 ^ 8 - 1) (a / 2 ^ 23 % 2 ^ 8) (a / 2 ^ 31 % 2 == 1) _ _ (by decide +kernel) (by decide +kernel) h5 h1 h2 h3 h4 (fun w => ones_2 w) w

theorem taken_3 (a : Nat) (ha : a < 2 ^ 64) (w : World) : Calls Tryd.prog 156 #[.agg #[.int .i64 64, .int .i64 53, .int .i64 1023, .int .i64 (-1022), .int .i64 11], .agg #[.int .u64 (dgl (a) 0 : Nat), .int .u64 (dgl (a) 1 : Nat), .int .u64 (dgl (a) 2 : Nat), .int .u64 (dgl (a) 3 : Nat), .int .u64 (dgl (a) 4 : Nat), .int .u64 (dgl (a) 5 : Nat), .int .u64 (dgl (a) 6 : Nat), .int .u64 (dgl (a) 7 : Nat)]] w fun e w' => e = .returned (.agg #[.bool (a / 2 ^ 63 % 2 == 1), .int .i64 ((a / 2 ^ 52 % 2 ^ 11 : Nat)), .int .u64 (dgl (a % 2 ^ 52) 0 : Nat), .int .u64 (dgl (a % 2 ^ 52) 1 : Nat), .int .u64 (dgl (a % 2 ^ 52) 2 : Nat), .int .u64 (dgl (a % 2 ^ 52) 3 : Nat), .int .u64 (dgl (a % 2 ^ 52) 4 : Nat), .int .u64 (dgl (a % 2 ^ 52) 5 : Nat), .int .u64 (dgl (a % 2 ^ 52) 6 : Nat), .int .u64 (dgl (a % 2 ^ 52) 7 : Nat)]) ∧ Below w.heap.size w w' := by
  have hQ := q200
  have hq : a < QQ := by omega
  have hu : a / 2 ^ 52 < 2 ^ 12 := by
    rw [Nat.div_lt_iff_lt_mul (Nat.two_pow_pos _), ← Nat.pow_add]
    exact ha
  have h1 := fun w => wideShr_any a 52 52 (by decide) hq w
  have h2 := fun w => wideShl_any (a / 2 ^ 52) 52 (by omega) w
  rw [show roomI 52 = ((52 : Nat) : Int) by decide, sh_up] at h2
  have hle : a / 2 ^ 52 * 2 ^ 52 ≤ a := Nat.div_mul_le_self _ _
  have h3 := fun w => wideSub_any a (a / 2 ^ 52 * 2 ^ 52) hq (by omega) w
  have hm : a - a / 2 ^ 52 * 2 ^ 52 = a % 2 ^ 52 := by
    have := Nat.div_add_mod a (2 ^ 52)
    rw [Nat.mul_comm] at this
    omega
  rw [subQ_le hq hle, hm] at h3
  have h4 := fun w => wideBit_any a 63 hq (by decide) (by decide) w
  rw [show (63 : Int).toNat = 63 from rfl] at h4
  have h5 := and_mask (a / 2 ^ 52) 11 (by omega) (by decide)
  exact taken_walk (fun i => [64, 53, 1023, -1022, 11].getD i 0) a (a / 2 ^ 52) (a / 2 ^ 52 * 2 ^ 52) (a % 2 ^ 52) (2 ^ 11 - 1) (a / 2 ^ 52 % 2 ^ 11) (a / 2 ^ 63 % 2 == 1) _ _ (by decide +kernel) (by decide +kernel) h5 h1 h2 h3 h4 (fun w => ones_3 w) w

theorem taken_4 (a : Nat) (ha : a < 2 ^ 128) (w : World) : Calls Tryd.prog 156 #[.agg #[.int .i64 128, .int .i64 113, .int .i64 16383, .int .i64 (-16382), .int .i64 15], .agg #[.int .u64 (dgl (a) 0 : Nat), .int .u64 (dgl (a) 1 : Nat), .int .u64 (dgl (a) 2 : Nat), .int .u64 (dgl (a) 3 : Nat), .int .u64 (dgl (a) 4 : Nat), .int .u64 (dgl (a) 5 : Nat), .int .u64 (dgl (a) 6 : Nat), .int .u64 (dgl (a) 7 : Nat)]] w fun e w' => e = .returned (.agg #[.bool (a / 2 ^ 127 % 2 == 1), .int .i64 ((a / 2 ^ 112 % 2 ^ 15 : Nat)), .int .u64 (dgl (a % 2 ^ 112) 0 : Nat), .int .u64 (dgl (a % 2 ^ 112) 1 : Nat), .int .u64 (dgl (a % 2 ^ 112) 2 : Nat), .int .u64 (dgl (a % 2 ^ 112) 3 : Nat), .int .u64 (dgl (a % 2 ^ 112) 4 : Nat), .int .u64 (dgl (a % 2 ^ 112) 5 : Nat), .int .u64 (dgl (a % 2 ^ 112) 6 : Nat), .int .u64 (dgl (a % 2 ^ 112) 7 : Nat)]) ∧ Below w.heap.size w w' := by
  have hQ := q200
  have hq : a < QQ := by omega
  have hu : a / 2 ^ 112 < 2 ^ 16 := by
    rw [Nat.div_lt_iff_lt_mul (Nat.two_pow_pos _), ← Nat.pow_add]
    exact ha
  have h1 := fun w => wideShr_any a 112 112 (by decide) hq w
  have h2 := fun w => wideShl_any (a / 2 ^ 112) 112 (by omega) w
  rw [show roomI 112 = ((112 : Nat) : Int) by decide, sh_up] at h2
  have hle : a / 2 ^ 112 * 2 ^ 112 ≤ a := Nat.div_mul_le_self _ _
  have h3 := fun w => wideSub_any a (a / 2 ^ 112 * 2 ^ 112) hq (by omega) w
  have hm : a - a / 2 ^ 112 * 2 ^ 112 = a % 2 ^ 112 := by
    have := Nat.div_add_mod a (2 ^ 112)
    rw [Nat.mul_comm] at this
    omega
  rw [subQ_le hq hle, hm] at h3
  have h4 := fun w => wideBit_any a 127 hq (by decide) (by decide) w
  rw [show (127 : Int).toNat = 127 from rfl] at h4
  have h5 := and_mask (a / 2 ^ 112) 15 (by omega) (by decide)
  exact taken_walk (fun i => [128, 113, 16383, -16382, 15].getD i 0) a (a / 2 ^ 112) (a / 2 ^ 112 * 2 ^ 112) (a % 2 ^ 112) (2 ^ 15 - 1) (a / 2 ^ 112 % 2 ^ 15) (a / 2 ^ 127 % 2 == 1) _ _ (by decide +kernel) (by decide +kernel) h5 h1 h2 h3 h4 (fun w => ones_4 w) w

set_option maxHeartbeats 1000000 in
theorem asked_int_no (f : Int) (hi lo : Nat) (fv : Value)
    (HFI : Hid (∀ w, FmtG w → Calls Tryd.prog 155 #[.int .i64 f, .agg #[.int .u64 (hi : Nat), .int .u64 (lo : Nat)]] w fun e w' => e = .returned (.bool false) ∧ Below w.heap.size w w')) (w : World) (hg : FmtG w) :
    Calls Tryd.prog 131 #[.int .i64 f, .agg #[.int .u64 (hi : Nat), .int .u64 (lo : Nat)], fv] w fun e w' => e = .returned (.int .i64 0) ∧ Below w.heap.size w w' := by
  have HST := hide (fitSt_start hi lo w)
  have HG := hide (hg.below HST.out.bel)
  clear hg
  go_enter Tryd.func131, Tryd.ntmps131
  go_wp2_with fail
  refine (HFI.out _ HG.out).mono ?_
  rintro e w1 ⟨rfl, hb1⟩
  have HB := hide (HST.out.below hb1).bel
  clear HST HG hb1
  go_wp2
  go_ret
  exact ⟨rfl, HB.out⟩

set_option maxHeartbeats 1000000 in
theorem asked_int (f : Int) (hi lo a fd r : Nat) (ng : Bool) (k : Nat → Int) (fid : Nat) (x : Int) (hent : ∀ args w, (callFunc fid args).run Tryd.prog w = .ok (.enter fid args) w)
    (HFI : Hid (∀ w, FmtG w → Calls Tryd.prog 155 #[.int .i64 f, .agg #[.int .u64 (hi : Nat), .int .u64 (lo : Nat)]] w fun e w' => e = .returned (.bool true) ∧ Below w.heap.size w w'))
    (HO : Hid (∀ w, FmtG w → Calls Tryd.prog 47 #[.int .i64 f] w fun e w' => e = .returned (.tuple #[.agg #[.int .i64 (k 0), .int .i64 (k 1), .int .i64 (k 2), .int .i64 (k 3), .int .i64 (k 4)], .bool true]) ∧ Below w.heap.size w w'))
    (HFR : Hid (∀ w, Calls Tryd.prog 111 #[.agg #[.int .u64 (hi : Nat), .int .u64 (lo : Nat)]] w fun e w' => e = .returned (.agg #[.int .u64 (dgl (a) 0 : Nat), .int .u64 (dgl (a) 1 : Nat), .int .u64 (dgl (a) 2 : Nat), .int .u64 (dgl (a) 3 : Nat), .int .u64 (dgl (a) 4 : Nat), .int .u64 (dgl (a) 5 : Nat), .int .u64 (dgl (a) 6 : Nat), .int .u64 (dgl (a) 7 : Nat)]) ∧ Below w.heap.size w w'))
    (HTK : Hid (∀ w, Calls Tryd.prog 156 #[.agg #[.int .i64 (k 0), .int .i64 (k 1), .int .i64 (k 2), .int .i64 (k 3), .int .i64 (k 4)], .agg #[.int .u64 (dgl (a) 0 : Nat), .int .u64 (dgl (a) 1 : Nat), .int .u64 (dgl (a) 2 : Nat), .int .u64 (dgl (a) 3 : Nat), .int .u64 (dgl (a) 4 : Nat), .int .u64 (dgl (a) 5 : Nat), .int .u64 (dgl (a) 6 : Nat), .int .u64 (dgl (a) 7 : Nat)]] w fun e w' => e = .returned (.agg #[.bool ng, .int .i64 ((fd : Nat)), .int .u64 (dgl r 0 : Nat), .int .u64 (dgl r 1 : Nat), .int .u64 (dgl r 2 : Nat), .int .u64 (dgl r 3 : Nat), .int .u64 (dgl r 4 : Nat), .int .u64 (dgl r 5 : Nat), .int .u64 (dgl r 6 : Nat), .int .u64 (dgl r 7 : Nat)]) ∧ Below w.heap.size w w'))
    (HT : Hid (∀ w, Calls Tryd.prog fid #[.agg #[.int .i64 (k 0), .int .i64 (k 1), .int .i64 (k 2), .int .i64 (k 3), .int .i64 (k 4)], .agg #[.bool ng, .int .i64 ((fd : Nat)), .int .u64 (dgl r 0 : Nat), .int .u64 (dgl r 1 : Nat), .int .u64 (dgl r 2 : Nat), .int .u64 (dgl r 3 : Nat), .int .u64 (dgl r 4 : Nat), .int .u64 (dgl r 5 : Nat), .int .u64 (dgl r 6 : Nat), .int .u64 (dgl r 7 : Nat)]] w fun e w' => e = .returned (.int .i64 x) ∧ Below w.heap.size w w')) (w : World) (hg : FmtG w) :
    Calls Tryd.prog 131 #[.int .i64 f, .agg #[.int .u64 (hi : Nat), .int .u64 (lo : Nat)], .func (.func fid) #[] #[]] w fun e w' => e = .returned (.int .i64 x) ∧ Below w.heap.size w w' := by
  have HST := hide (fitSt_start hi lo w)
  have HG := hide (hg.below HST.out.bel)
  clear hg
  go_enter Tryd.func131, Tryd.ntmps131
  go_wp2_with fail
  refine (HFI.out _ HG.out).mono ?_
  rintro e w1 ⟨rfl, hb1⟩
  replace HST := hide (HST.out.below hb1)
  replace HG := hide (HG.out.below hb1)
  clear hb1
  go_wp2_with fail
  refine (HO.out _ HG.out).mono ?_
  rintro e w2 ⟨rfl, hb2⟩
  have HS2 := hide (fit2St_start hi lo k w w2 (HST.out.below hb2))
  clear HST hb2 HG
  go_upto_region 5 with fail
  refine wp_gen (fun W => Fit2St w2.heap.size hi lo w k W) HS2.out ?_
  clear HS2
  rintro W1 h1
  generalize w2.heap.size = p at *
  refine wp_region_grow 7 [(20, .val (.func (.func fid) #[] #[])), (21, .val (.agg #[.int .i64 (k 0), .int .i64 (k 1), .int .i64 (k 2), .int .i64 (k 3), .int .i64 (k 4)])), (22, .val (.agg #[.int .i64 (k 0), .int .i64 (k 1), .int .i64 (k 2), .int .i64 (k 3), .int .i64 (k 4)])), (23, .val (.agg #[.int .u64 (hi : Nat), .int .u64 (lo : Nat)])), (24, .val (.agg #[.int .u64 (dgl (a) 0 : Nat), .int .u64 (dgl (a) 1 : Nat), .int .u64 (dgl (a) 2 : Nat), .int .u64 (dgl (a) 3 : Nat), .int .u64 (dgl (a) 4 : Nat), .int .u64 (dgl (a) 5 : Nat), .int .u64 (dgl (a) 6 : Nat), .int .u64 (dgl (a) 7 : Nat)])), (25, .val (.agg #[.bool ng, .int .i64 ((fd : Nat)), .int .u64 (dgl r 0 : Nat), .int .u64 (dgl r 1 : Nat), .int .u64 (dgl r 2 : Nat), .int .u64 (dgl r 3 : Nat), .int .u64 (dgl r 4 : Nat), .int .u64 (dgl r 5 : Nat), .int .u64 (dgl r 6 : Nat), .int .u64 (dgl r 7 : Nat)])), (26, .val (.int .i64 x))]
    (fun W => Fit2St p hi lo w k W) mixedOk (by kernel_rfl) (by kernel_rfl) (h1.below (Below.refl _ _).drew) (fun W W' h hb => h.below hb) ?_ ?_
  · refine gSt (gStep_run rfl (gRun_move 2 20 (.inl rfl) rfl (by decide +kernel) (fun v w h => h))) ?_
    refine gSt (gStep_run rfl ?_) ?_
    · intro ρ W hC hc hf hL
      have e8 : ρ (.tmp 8) = .pointer (some ⟨p, 0, none⟩) := hL 8 (by decide +kernel)
      have g0 := hC.rk 0 (by decide)
      have g1 := hC.rk 1 (by decide)
      have g2 := hC.rk 2 (by decide)
      have g3 := hC.rk 3 (by decide)
      have g4 := hC.rk 4 (by decide)
      simp [go_sem, hc, hf, e8, g0, g1, g2, g3, g4]
      exact ⟨Below.refl _ _, rfl⟩
    refine gSt (gStep_run rfl ?_) ?_
    · intro ρ W hC hc hf hL
      have e8 : ρ (.tmp 8) = .pointer (some ⟨p, 0, none⟩) := hL 8 (by decide +kernel)
      have g0 := hC.rk 0 (by decide)
      have g1 := hC.rk 1 (by decide)
      have g2 := hC.rk 2 (by decide)
      have g3 := hC.rk 3 (by decide)
      have g4 := hC.rk 4 (by decide)
      simp [go_sem, hc, hf, e8, g0, g1, g2, g3, g4]
      exact ⟨Below.refl _ _, rfl⟩
    refine gSt (gStep_run rfl ?_) ?_
    · intro ρ W hC hc hf hL
      have e4 : ρ (.tmp 4) = .pointer (some ⟨w.heap.size, 0, none⟩) := hL 4 (by decide +kernel)
      have l0 := hC.s.h
      have l1 := hC.s.l
      simp [go_sem, hc, hf, e4, l0, l1]
      exact ⟨Below.refl _ _, rfl⟩
    refine gSt (gStep_run rfl ?_) ?_
    · intro ρ W hC hc hf hL
      have e23 : ρ (.tmp 23) = .agg #[.int .u64 (hi : Nat), .int .u64 (lo : Nat)] := hL 23 (by decide +kernel)
      simp [go_sem, hc, hf, e23]
      refine (HFR.out W).mono ?_
      rintro e w' ⟨rfl, hb⟩
      exact ⟨_, rfl, by first | exact hb | (subst hb; exact Below.refl _ _), rfl⟩
    refine gSt (gStep_run rfl ?_) ?_
    · intro ρ W hC hc hf hL
      have e22 : ρ (.tmp 22) = .agg #[.int .i64 (k 0), .int .i64 (k 1), .int .i64 (k 2), .int .i64 (k 3), .int .i64 (k 4)] := hL 22 (by decide +kernel)
      have e24 : ρ (.tmp 24) = .agg #[.int .u64 (dgl (a) 0 : Nat), .int .u64 (dgl (a) 1 : Nat), .int .u64 (dgl (a) 2 : Nat), .int .u64 (dgl (a) 3 : Nat), .int .u64 (dgl (a) 4 : Nat), .int .u64 (dgl (a) 5 : Nat), .int .u64 (dgl (a) 6 : Nat), .int .u64 (dgl (a) 7 : Nat)] := hL 24 (by decide +kernel)
      simp [go_sem, hc, hf, e22, e24]
      refine (HTK.out W).mono ?_
      rintro e w' ⟨rfl, hb⟩
      exact ⟨_, rfl, by first | exact hb | (subst hb; exact Below.refl _ _), rfl⟩
    refine gSt (gStep_run rfl ?_) ?_
    · intro ρ W hC hc hf hL
      have e20 : ρ (.tmp 20) = .func (.func fid) #[] #[] := hL 20 (by decide +kernel)
      have e21 : ρ (.tmp 21) = .agg #[.int .i64 (k 0), .int .i64 (k 1), .int .i64 (k 2), .int .i64 (k 3), .int .i64 (k 4)] := hL 21 (by decide +kernel)
      have e25 : ρ (.tmp 25) = .agg #[.bool ng, .int .i64 ((fd : Nat)), .int .u64 (dgl r 0 : Nat), .int .u64 (dgl r 1 : Nat), .int .u64 (dgl r 2 : Nat), .int .u64 (dgl r 3 : Nat), .int .u64 (dgl r 4 : Nat), .int .u64 (dgl r 5 : Nat), .int .u64 (dgl r 6 : Nat), .int .u64 (dgl r 7 : Nat)] := hL 25 (by decide +kernel)
      simp [go_sem, hc, hf, e20, e21, e25, hent]
      refine (HT.out W).mono ?_
      rintro e w' ⟨rfl, hb⟩
      exact ⟨_, rfl, by first | exact hb | (subst hb; exact Below.refl _ _), rfl⟩
    exact gSt0
  · intro W hC
    refine gFi 20 rfl ?_
    rintro _ rfl
    refine gFi 21 rfl ?_
    rintro _ rfl
    refine gFi 22 rfl ?_
    rintro _ rfl
    refine gFi 23 rfl ?_
    rintro _ rfl
    refine gFi 24 rfl ?_
    rintro _ rfl
    refine gFi 25 rfl ?_
    rintro _ rfl
    refine gFi 26 rfl ?_
    rintro _ rfl
    refine gFi0 ?_
    simp only [List.drop_succ_cons, List.drop_zero, Act.put, List.setIfInBounds_toArray, List.set_cons_succ, List.set_cons_zero]
    have HB := hide hC.s.bel
    clear hC h1
    go_wp2
    go_ret
    exact ⟨rfl, HB.out⟩

set_option maxHeartbeats 1000000 in
theorem asked_bool_no (f : Int) (hi lo : Nat) (fv : Value)
    (HFI : Hid (∀ w, FmtG w → Calls Tryd.prog 155 #[.int .i64 f, .agg #[.int .u64 (hi : Nat), .int .u64 (lo : Nat)]] w fun e w' => e = .returned (.bool false) ∧ Below w.heap.size w w')) (w : World) (hg : FmtG w) :
    Calls Tryd.prog 136 #[.int .i64 f, .agg #[.int .u64 (hi : Nat), .int .u64 (lo : Nat)], fv] w fun e w' => e = .returned (.bool false) ∧ Below w.heap.size w w' := by
  have HST := hide (fitSt_start hi lo w)
  have HG := hide (hg.below HST.out.bel)
  clear hg
  go_enter Tryd.func136, Tryd.ntmps136
  go_wp2_with fail
  refine (HFI.out _ HG.out).mono ?_
  rintro e w1 ⟨rfl, hb1⟩
  have HB := hide (HST.out.below hb1).bel
  clear HST HG hb1
  go_wp2
  go_ret
  exact ⟨rfl, HB.out⟩

set_option maxHeartbeats 1000000 in
theorem asked_bool (f : Int) (hi lo a fd r : Nat) (ng : Bool) (k : Nat → Int) (fid : Nat) (x : Bool) (hent : ∀ args w, (callFunc fid args).run Tryd.prog w = .ok (.enter fid args) w)
    (HFI : Hid (∀ w, FmtG w → Calls Tryd.prog 155 #[.int .i64 f, .agg #[.int .u64 (hi : Nat), .int .u64 (lo : Nat)]] w fun e w' => e = .returned (.bool true) ∧ Below w.heap.size w w'))
    (HO : Hid (∀ w, FmtG w → Calls Tryd.prog 47 #[.int .i64 f] w fun e w' => e = .returned (.tuple #[.agg #[.int .i64 (k 0), .int .i64 (k 1), .int .i64 (k 2), .int .i64 (k 3), .int .i64 (k 4)], .bool true]) ∧ Below w.heap.size w w'))
    (HFR : Hid (∀ w, Calls Tryd.prog 111 #[.agg #[.int .u64 (hi : Nat), .int .u64 (lo : Nat)]] w fun e w' => e = .returned (.agg #[.int .u64 (dgl (a) 0 : Nat), .int .u64 (dgl (a) 1 : Nat), .int .u64 (dgl (a) 2 : Nat), .int .u64 (dgl (a) 3 : Nat), .int .u64 (dgl (a) 4 : Nat), .int .u64 (dgl (a) 5 : Nat), .int .u64 (dgl (a) 6 : Nat), .int .u64 (dgl (a) 7 : Nat)]) ∧ Below w.heap.size w w'))
    (HTK : Hid (∀ w, Calls Tryd.prog 156 #[.agg #[.int .i64 (k 0), .int .i64 (k 1), .int .i64 (k 2), .int .i64 (k 3), .int .i64 (k 4)], .agg #[.int .u64 (dgl (a) 0 : Nat), .int .u64 (dgl (a) 1 : Nat), .int .u64 (dgl (a) 2 : Nat), .int .u64 (dgl (a) 3 : Nat), .int .u64 (dgl (a) 4 : Nat), .int .u64 (dgl (a) 5 : Nat), .int .u64 (dgl (a) 6 : Nat), .int .u64 (dgl (a) 7 : Nat)]] w fun e w' => e = .returned (.agg #[.bool ng, .int .i64 ((fd : Nat)), .int .u64 (dgl r 0 : Nat), .int .u64 (dgl r 1 : Nat), .int .u64 (dgl r 2 : Nat), .int .u64 (dgl r 3 : Nat), .int .u64 (dgl r 4 : Nat), .int .u64 (dgl r 5 : Nat), .int .u64 (dgl r 6 : Nat), .int .u64 (dgl r 7 : Nat)]) ∧ Below w.heap.size w w'))
    (HT : Hid (∀ w, Calls Tryd.prog fid #[.agg #[.int .i64 (k 0), .int .i64 (k 1), .int .i64 (k 2), .int .i64 (k 3), .int .i64 (k 4)], .agg #[.bool ng, .int .i64 ((fd : Nat)), .int .u64 (dgl r 0 : Nat), .int .u64 (dgl r 1 : Nat), .int .u64 (dgl r 2 : Nat), .int .u64 (dgl r 3 : Nat), .int .u64 (dgl r 4 : Nat), .int .u64 (dgl r 5 : Nat), .int .u64 (dgl r 6 : Nat), .int .u64 (dgl r 7 : Nat)]] w fun e w' => e = .returned (.bool x) ∧ Below w.heap.size w w')) (w : World) (hg : FmtG w) :
    Calls Tryd.prog 136 #[.int .i64 f, .agg #[.int .u64 (hi : Nat), .int .u64 (lo : Nat)], .func (.func fid) #[] #[]] w fun e w' => e = .returned (.bool x) ∧ Below w.heap.size w w' := by
  have HST := hide (fitSt_start hi lo w)
  have HG := hide (hg.below HST.out.bel)
  clear hg
  go_enter Tryd.func136, Tryd.ntmps136
  go_wp2_with fail
  refine (HFI.out _ HG.out).mono ?_
  rintro e w1 ⟨rfl, hb1⟩
  replace HST := hide (HST.out.below hb1)
  replace HG := hide (HG.out.below hb1)
  clear hb1
  go_wp2_with fail
  refine (HO.out _ HG.out).mono ?_
  rintro e w2 ⟨rfl, hb2⟩
  have HS2 := hide (fit2St_start hi lo k w w2 (HST.out.below hb2))
  clear HST hb2 HG
  go_upto_region 5 with fail
  refine wp_gen (fun W => Fit2St w2.heap.size hi lo w k W) HS2.out ?_
  clear HS2
  rintro W1 h1
  generalize w2.heap.size = p at *
  refine wp_region_grow 7 [(20, .val (.func (.func fid) #[] #[])), (21, .val (.agg #[.int .i64 (k 0), .int .i64 (k 1), .int .i64 (k 2), .int .i64 (k 3), .int .i64 (k 4)])), (22, .val (.agg #[.int .i64 (k 0), .int .i64 (k 1), .int .i64 (k 2), .int .i64 (k 3), .int .i64 (k 4)])), (23, .val (.agg #[.int .u64 (hi : Nat), .int .u64 (lo : Nat)])), (24, .val (.agg #[.int .u64 (dgl (a) 0 : Nat), .int .u64 (dgl (a) 1 : Nat), .int .u64 (dgl (a) 2 : Nat), .int .u64 (dgl (a) 3 : Nat), .int .u64 (dgl (a) 4 : Nat), .int .u64 (dgl (a) 5 : Nat), .int .u64 (dgl (a) 6 : Nat), .int .u64 (dgl (a) 7 : Nat)])), (25, .val (.agg #[.bool ng, .int .i64 ((fd : Nat)), .int .u64 (dgl r 0 : Nat), .int .u64 (dgl r 1 : Nat), .int .u64 (dgl r 2 : Nat), .int .u64 (dgl r 3 : Nat), .int .u64 (dgl r 4 : Nat), .int .u64 (dgl r 5 : Nat), .int .u64 (dgl r 6 : Nat), .int .u64 (dgl r 7 : Nat)])), (26, .val (.bool x))]
    (fun W => Fit2St p hi lo w k W) mixedOk (by kernel_rfl) (by kernel_rfl) (h1.below (Below.refl _ _).drew) (fun W W' h hb => h.below hb) ?_ ?_
  · refine gSt (gStep_run rfl (gRun_move 2 20 (.inl rfl) rfl (by decide +kernel) (fun v w h => h))) ?_
    refine gSt (gStep_run rfl ?_) ?_
    · intro ρ W hC hc hf hL
      have e8 : ρ (.tmp 8) = .pointer (some ⟨p, 0, none⟩) := hL 8 (by decide +kernel)
      have g0 := hC.rk 0 (by decide)
      have g1 := hC.rk 1 (by decide)
      have g2 := hC.rk 2 (by decide)
      have g3 := hC.rk 3 (by decide)
      have g4 := hC.rk 4 (by decide)
      simp [go_sem, hc, hf, e8, g0, g1, g2, g3, g4]
      exact ⟨Below.refl _ _, rfl⟩
    refine gSt (gStep_run rfl ?_) ?_
    · intro ρ W hC hc hf hL
      have e8 : ρ (.tmp 8) = .pointer (some ⟨p, 0, none⟩) := hL 8 (by decide +kernel)
      have g0 := hC.rk 0 (by decide)
      have g1 := hC.rk 1 (by decide)
      have g2 := hC.rk 2 (by decide)
      have g3 := hC.rk 3 (by decide)
      have g4 := hC.rk 4 (by decide)
      simp [go_sem, hc, hf, e8, g0, g1, g2, g3, g4]
      exact ⟨Below.refl _ _, rfl⟩
    refine gSt (gStep_run rfl ?_) ?_
    · intro ρ W hC hc hf hL
      have e4 : ρ (.tmp 4) = .pointer (some ⟨w.heap.size, 0, none⟩) := hL 4 (by decide +kernel)
      have l0 := hC.s.h
      have l1 := hC.s.l
      simp [go_sem, hc, hf, e4, l0, l1]
      exact ⟨Below.refl _ _, rfl⟩
    refine gSt (gStep_run rfl ?_) ?_
    · intro ρ W hC hc hf hL
      have e23 : ρ (.tmp 23) = .agg #[.int .u64 (hi : Nat), .int .u64 (lo : Nat)] := hL 23 (by decide +kernel)
      simp [go_sem, hc, hf, e23]
      refine (HFR.out W).mono ?_
      rintro e w' ⟨rfl, hb⟩
      exact ⟨_, rfl, by first | exact hb | (subst hb; exact Below.refl _ _), rfl⟩
    refine gSt (gStep_run rfl ?_) ?_
    · intro ρ W hC hc hf hL
      have e22 : ρ (.tmp 22) = .agg #[.int .i64 (k 0), .int .i64 (k 1), .int .i64 (k 2), .int .i64 (k 3), .int .i64 (k 4)] := hL 22 (by decide +kernel)
      have e24 : ρ (.tmp 24) = .agg #[.int .u64 (dgl (a) 0 : Nat), .int .u64 (dgl (a) 1 : Nat), .int .u64 (dgl (a) 2 : Nat), .int .u64 (dgl (a) 3 : Nat), .int .u64 (dgl (a) 4 : Nat), .int .u64 (dgl (a) 5 : Nat), .int .u64 (dgl (a) 6 : Nat), .int .u64 (dgl (a) 7 : Nat)] := hL 24 (by decide +kernel)
      simp [go_sem, hc, hf, e22, e24]
      refine (HTK.out W).mono ?_
      rintro e w' ⟨rfl, hb⟩
      exact ⟨_, rfl, by first | exact hb | (subst hb; exact Below.refl _ _), rfl⟩
    refine gSt (gStep_run rfl ?_) ?_
    · intro ρ W hC hc hf hL
      have e20 : ρ (.tmp 20) = .func (.func fid) #[] #[] := hL 20 (by decide +kernel)
      have e21 : ρ (.tmp 21) = .agg #[.int .i64 (k 0), .int .i64 (k 1), .int .i64 (k 2), .int .i64 (k 3), .int .i64 (k 4)] := hL 21 (by decide +kernel)
      have e25 : ρ (.tmp 25) = .agg #[.bool ng, .int .i64 ((fd : Nat)), .int .u64 (dgl r 0 : Nat), .int .u64 (dgl r 1 : Nat), .int .u64 (dgl r 2 : Nat), .int .u64 (dgl r 3 : Nat), .int .u64 (dgl r 4 : Nat), .int .u64 (dgl r 5 : Nat), .int .u64 (dgl r 6 : Nat), .int .u64 (dgl r 7 : Nat)] := hL 25 (by decide +kernel)
      simp [go_sem, hc, hf, e20, e21, e25, hent]
      refine (HT.out W).mono ?_
      rintro e w' ⟨rfl, hb⟩
      exact ⟨_, rfl, by first | exact hb | (subst hb; exact Below.refl _ _), rfl⟩
    exact gSt0
  · intro W hC
    refine gFi 20 rfl ?_
    rintro _ rfl
    refine gFi 21 rfl ?_
    rintro _ rfl
    refine gFi 22 rfl ?_
    rintro _ rfl
    refine gFi 23 rfl ?_
    rintro _ rfl
    refine gFi 24 rfl ?_
    rintro _ rfl
    refine gFi 25 rfl ?_
    rintro _ rfl
    refine gFi 26 rfl ?_
    rintro _ rfl
    refine gFi0 ?_
    simp only [List.drop_succ_cons, List.drop_zero, Act.put, List.setIfInBounds_toArray, List.set_cons_succ, List.set_cons_zero]
    have HB := hide hC.s.bel
    clear hC h1
    go_wp2
    go_ret
    exact ⟨rfl, HB.out⟩

end Go.Proofs.YtpcjdllijkjdkaaDoor

/- Contracts: class.Of. -/
set_option linter.unusedVariables false
set_option linter.unusedSimpArgs false
set_option maxRecDepth 8000
namespace Go.Proofs.YtpcjdllijkjdkaaDoor
open Go.RowKit Plain

/-- What the closures of class go by: the record, and the parts. -/
structure OcSt (w : World) (k : Nat → Int) (ng : Bool) (fd r : Nat) (W : World) : Prop where
  rk : ∀ i, i < 5 → W.cell? ⟨w.heap.size, i, none⟩ = some (.int .i64 (k i))
  p0 : W.cell? ⟨w.heap.size + 1, 0, none⟩ = some (.bool ng)
  p1 : W.cell? ⟨w.heap.size + 1, 1, none⟩ = some (.int .i64 (fd : Nat))
  p2 : ∀ i, i < 8 → W.cell? ⟨w.heap.size + 1, 2 + i, none⟩ = some (.int .u64 (dgl r i : Nat))
  lt : w.heap.size + 1 < W.heap.size
  bel : Below w.heap.size w W
theorem OcSt.below {w : World} {k : Nat → Int} {ng : Bool} {fd r : Nat} {W W' : World} (h : OcSt w k ng fd r W) (hb : Below W.heap.size W W') : OcSt w k ng fd r W' :=
  have hl := h.lt
  ⟨fun i hi => (hb.cell (p := ⟨w.heap.size, i, none⟩) (show w.heap.size < W.heap.size by omega)).trans (h.rk i hi), (hb.cell (p := ⟨w.heap.size + 1, 0, none⟩) h.lt).trans h.p0, (hb.cell (p := ⟨w.heap.size + 1, 1, none⟩) h.lt).trans h.p1,
    fun i hi => (hb.cell (p := ⟨w.heap.size + 1, 2 + i, none⟩) h.lt).trans (h.p2 i hi), Nat.lt_of_lt_of_le h.lt hb.size, below_trans h.bel hb⟩
theorem ocSt_start (w : World) (k : Nat → Int) (ng : Bool) (fd r : Nat) : OcSt w k ng fd r ((w.alloc (.cells #[.int .i64 (k 0), .int .i64 (k 1), .int .i64 (k 2), .int .i64 (k 3), .int .i64 (k 4)] 85)).alloc (.cells #[.bool ng, .int .i64 ((fd : Nat)), .int .u64 (dgl r 0 : Nat), .int .u64 (dgl r 1 : Nat), .int .u64 (dgl r 2 : Nat), .int .u64 (dgl r 3 : Nat), .int .u64 (dgl r 4 : Nat), .int .u64 (dgl r 5 : Nat), .int .u64 (dgl r 6 : Nat), .int .u64 (dgl r 7 : Nat)] 148)) := by
  have h2 := below_allocs (w.alloc (.cells #[.int .i64 (k 0), .int .i64 (k 1), .int .i64 (k 2), .int .i64 (k 3), .int .i64 (k 4)] 85)) (.cells #[.bool ng, .int .i64 ((fd : Nat)), .int .u64 (dgl r 0 : Nat), .int .u64 (dgl r 1 : Nat), .int .u64 (dgl r 2 : Nat), .int .u64 (dgl r 3 : Nat), .int .u64 (dgl r 4 : Nat), .int .u64 (dgl r 5 : Nat), .int .u64 (dgl r 6 : Nat), .int .u64 (dgl r 7 : Nat)] 148)
  rw [World.size_alloc] at h2
  refine ⟨fun i hi => (h2.cell (p := ⟨w.heap.size, i, none⟩) (show w.heap.size < w.heap.size + 1 by omega)).trans (rec5_new w k _ i hi), by simp [go_sem], by simp [go_sem], fun i hi => ?_, by simp, below_trans (below_allocs _ _) (below_allocs _ _)⟩
  match i, hi with
  | 0, _ | 1, _ | 2, _ | 3, _ | 4, _ | 5, _ | 6, _ | 7, _ => simp [go_sem]

set_option maxHeartbeats 2000000 in
theorem of1_inf (k : Nat → Int) (ng : Bool) (fd r m : Nat) (hr : r < QQ) (h0 : r = 0) (HEQ : Hid (((fd : Int) == (m : Int)) = true))
    (HON : Hid (∀ w, Calls Tryd.prog 110 #[.agg #[.int .i64 (k 0), .int .i64 (k 1), .int .i64 (k 2), .int .i64 (k 3), .int .i64 (k 4)]] w fun e w' => e = .returned (.int .i64 ((m : Nat) : Int)) ∧ Below w.heap.size w w')) (w : World) :
    Calls Tryd.prog 132 #[.agg #[.int .i64 (k 0), .int .i64 (k 1), .int .i64 (k 2), .int .i64 (k 3), .int .i64 (k 4)], .agg #[.bool ng, .int .i64 ((fd : Nat)), .int .u64 (dgl r 0 : Nat), .int .u64 (dgl r 1 : Nat), .int .u64 (dgl r 2 : Nat), .int .u64 (dgl r 3 : Nat), .int .u64 (dgl r 4 : Nat), .int .u64 (dgl r 5 : Nat), .int .u64 (dgl r 6 : Nat), .int .u64 (dgl r 7 : Nat)]] w fun e w' => e = .returned (.int .i64 3) ∧ Below w.heap.size w w' := by
  have HST := hide (ocSt_start w k ng fd r)
  have hz := fun w => wide_eqz hr w
  rw [decide_eq_true h0] at hz
  clear hr h0
  go_enter Tryd.func132, Tryd.ntmps132
  go_upto_region 2 with fail
  refine wp_gen (fun W => OcSt w k ng fd r W) HST.out ?_
  clear HST hz
  rintro W1 h1
  refine wp_region_grow 8 [(11, .val (.pointer (some ⟨w.heap.size + 1, 1, none⟩))), (12, .val (.int .i64 (fd : Nat))), (13, .val (.agg #[.int .i64 (k 0), .int .i64 (k 1), .int .i64 (k 2), .int .i64 (k 3), .int .i64 (k 4)])), (14, .val (.int .i64 ((m : Nat) : Int))), (15, .val (.bool true)), (16, .val (.bool true)), (17, .val (.bool true)), (18, .val (.bool true))]
    (fun W => OcSt w k ng fd r W) mixedOk (by kernel_rfl) (by kernel_rfl) (h1.below (Below.refl _ _).drew) (fun W W' h hb => h.below hb) ?_ ?_
  · refine gSt (gStep_run rfl ?_) ?_
    · intro ρ W hC hc hf hL
      have e3 : ρ (.tmp 3) = .pointer (some ⟨w.heap.size + 1, 0, none⟩) := hL 3 (by decide +kernel)
      simp [go_sem, hc, hf, e3]
      exact ⟨Below.refl _ _, rfl⟩
    refine gSt (gStep_run rfl ?_) ?_
    · intro ρ W hC hc hf hL
      have e11 : ρ (.tmp 11) = .pointer (some ⟨w.heap.size + 1, 1, none⟩) := hL 11 (by decide +kernel)
      have hl := hC.p1
      simp [go_sem, hc, hf, e11, hl]
      exact ⟨Below.refl _ _, rfl⟩
    refine gSt (gStep_run rfl ?_) ?_
    · intro ρ W hC hc hf hL
      have e2 : ρ (.tmp 2) = .pointer (some ⟨w.heap.size, 0, none⟩) := hL 2 (by decide +kernel)
      have g0 := hC.rk 0 (by decide)
      have g1 := hC.rk 1 (by decide)
      have g2 := hC.rk 2 (by decide)
      have g3 := hC.rk 3 (by decide)
      have g4 := hC.rk 4 (by decide)
      simp [go_sem, hc, hf, e2, g0, g1, g2, g3, g4]
      exact ⟨Below.refl _ _, rfl⟩
    refine gSt (gStep_run rfl ?_) ?_
    · intro ρ W hC hc hf hL
      have e13 : ρ (.tmp 13) = .agg #[.int .i64 (k 0), .int .i64 (k 1), .int .i64 (k 2), .int .i64 (k 3), .int .i64 (k 4)] := hL 13 (by decide +kernel)
      simp [go_sem, hc, hf, e13]
      refine (HON.out W).mono ?_
      rintro e w' ⟨rfl, hb⟩
      exact ⟨_, rfl, by first | exact hb | (subst hb; exact Below.refl _ _), rfl⟩
    refine gSt (gStep_run rfl ?_) ?_
    · intro ρ W hC hc hf hL
      have e12 : ρ (.tmp 12) = .int .i64 (fd : Nat) := hL 12 (by decide +kernel)
      have e14 : ρ (.tmp 14) = .int .i64 ((m : Nat) : Int) := hL 14 (by decide +kernel)
      have hl := HEQ.out
      simp [go_sem, hc, hf, e12, e14, hl]
      exact ⟨Below.refl _ _, rfl⟩
    refine gSt (gStep_run rfl (gRun_move 15 16 (.inl rfl) rfl (by decide +kernel) (fun v w h => h))) ?_
    refine gSt (gStep_on 5 16 true rfl rfl (by decide +kernel) (fun v w h => h) (gRun_move 5 17 (.inl rfl) rfl (by decide +kernel) (fun v w h => h))) ?_
    refine gSt (gStep_run rfl (gRun_pickT 16 17 18 _ rfl rfl (by decide +kernel) (by decide +kernel) (fun v w h => h) (fun v w h => h))) ?_
    exact gSt0
  · intro W hC
    refine gFi 11 rfl ?_
    rintro _ rfl
    refine gFi 12 rfl ?_
    rintro _ rfl
    refine gFi 13 rfl ?_
    rintro _ rfl
    refine gFi 14 rfl ?_
    rintro _ rfl
    refine gFi 15 rfl ?_
    rintro _ rfl
    refine gFi 16 rfl ?_
    rintro _ rfl
    refine gFi 17 rfl ?_
    rintro _ rfl
    refine gFi 18 rfl ?_
    rintro _ rfl
    refine gFi0 ?_
    simp only [List.drop_succ_cons, List.drop_zero, Act.put, List.setIfInBounds_toArray, List.set_cons_succ, List.set_cons_zero]
    have HB := hide hC.bel
    clear hC h1
    go_wp2
    go_ret
    exact ⟨rfl, HB.out⟩

set_option maxHeartbeats 2000000 in
theorem of1_quiet (k : Nat → Int) (ng : Bool) (fd r m : Nat) (hr : r < QQ) (h0 : ¬ r = 0) (HEQ : Hid (((fd : Int) == (m : Int)) = true)) (hw1 : IntKind.i64.wrap (k 1 - 2) = k 1 - 2) (HBI : Hid (∀ w, Calls Tryd.prog 133 #[.agg #[.int .u64 (dgl (r) 0 : Nat), .int .u64 (dgl (r) 1 : Nat), .int .u64 (dgl (r) 2 : Nat), .int .u64 (dgl (r) 3 : Nat), .int .u64 (dgl (r) 4 : Nat), .int .u64 (dgl (r) 5 : Nat), .int .u64 (dgl (r) 6 : Nat), .int .u64 (dgl (r) 7 : Nat)], .int .i64 (k 1 - 2)] w fun e w' => e = .returned (.bool true) ∧ Below w.heap.size w w'))
    (HON : Hid (∀ w, Calls Tryd.prog 110 #[.agg #[.int .i64 (k 0), .int .i64 (k 1), .int .i64 (k 2), .int .i64 (k 3), .int .i64 (k 4)]] w fun e w' => e = .returned (.int .i64 ((m : Nat) : Int)) ∧ Below w.heap.size w w')) (w : World) :
    Calls Tryd.prog 132 #[.agg #[.int .i64 (k 0), .int .i64 (k 1), .int .i64 (k 2), .int .i64 (k 3), .int .i64 (k 4)], .agg #[.bool ng, .int .i64 ((fd : Nat)), .int .u64 (dgl r 0 : Nat), .int .u64 (dgl r 1 : Nat), .int .u64 (dgl r 2 : Nat), .int .u64 (dgl r 3 : Nat), .int .u64 (dgl r 4 : Nat), .int .u64 (dgl r 5 : Nat), .int .u64 (dgl r 6 : Nat), .int .u64 (dgl r 7 : Nat)]] w fun e w' => e = .returned (.int .i64 2) ∧ Below w.heap.size w w' := by
  have HST := hide (ocSt_start w k ng fd r)
  have hz := fun w => wide_eqz hr w
  rw [decide_eq_false h0] at hz
  clear hr h0
  go_enter Tryd.func132, Tryd.ntmps132
  go_upto_region 2 with fail
  refine wp_gen (fun W => OcSt w k ng fd r W) HST.out ?_
  clear HST hz
  rintro W1 h1
  refine wp_region_grow 8 [(11, .val (.pointer (some ⟨w.heap.size + 1, 1, none⟩))), (12, .val (.int .i64 (fd : Nat))), (13, .val (.agg #[.int .i64 (k 0), .int .i64 (k 1), .int .i64 (k 2), .int .i64 (k 3), .int .i64 (k 4)])), (14, .val (.int .i64 ((m : Nat) : Int))), (15, .val (.bool true)), (16, .val (.bool true)), (17, .val (.bool false)), (18, .val (.bool false))]
    (fun W => OcSt w k ng fd r W) mixedOk (by kernel_rfl) (by kernel_rfl) (h1.below (Below.refl _ _).drew) (fun W W' h hb => h.below hb) ?_ ?_
  · refine gSt (gStep_run rfl ?_) ?_
    · intro ρ W hC hc hf hL
      have e3 : ρ (.tmp 3) = .pointer (some ⟨w.heap.size + 1, 0, none⟩) := hL 3 (by decide +kernel)
      simp [go_sem, hc, hf, e3]
      exact ⟨Below.refl _ _, rfl⟩
    refine gSt (gStep_run rfl ?_) ?_
    · intro ρ W hC hc hf hL
      have e11 : ρ (.tmp 11) = .pointer (some ⟨w.heap.size + 1, 1, none⟩) := hL 11 (by decide +kernel)
      have hl := hC.p1
      simp [go_sem, hc, hf, e11, hl]
      exact ⟨Below.refl _ _, rfl⟩
    refine gSt (gStep_run rfl ?_) ?_
    · intro ρ W hC hc hf hL
      have e2 : ρ (.tmp 2) = .pointer (some ⟨w.heap.size, 0, none⟩) := hL 2 (by decide +kernel)
      have g0 := hC.rk 0 (by decide)
      have g1 := hC.rk 1 (by decide)
      have g2 := hC.rk 2 (by decide)
      have g3 := hC.rk 3 (by decide)
      have g4 := hC.rk 4 (by decide)
      simp [go_sem, hc, hf, e2, g0, g1, g2, g3, g4]
      exact ⟨Below.refl _ _, rfl⟩
    refine gSt (gStep_run rfl ?_) ?_
    · intro ρ W hC hc hf hL
      have e13 : ρ (.tmp 13) = .agg #[.int .i64 (k 0), .int .i64 (k 1), .int .i64 (k 2), .int .i64 (k 3), .int .i64 (k 4)] := hL 13 (by decide +kernel)
      simp [go_sem, hc, hf, e13]
      refine (HON.out W).mono ?_
      rintro e w' ⟨rfl, hb⟩
      exact ⟨_, rfl, by first | exact hb | (subst hb; exact Below.refl _ _), rfl⟩
    refine gSt (gStep_run rfl ?_) ?_
    · intro ρ W hC hc hf hL
      have e12 : ρ (.tmp 12) = .int .i64 (fd : Nat) := hL 12 (by decide +kernel)
      have e14 : ρ (.tmp 14) = .int .i64 ((m : Nat) : Int) := hL 14 (by decide +kernel)
      have hl := HEQ.out
      simp [go_sem, hc, hf, e12, e14, hl]
      exact ⟨Below.refl _ _, rfl⟩
    refine gSt (gStep_run rfl (gRun_move 15 16 (.inl rfl) rfl (by decide +kernel) (fun v w h => h))) ?_
    refine gSt (gStep_on 5 16 true rfl rfl (by decide +kernel) (fun v w h => h) (gRun_move 5 17 (.inl rfl) rfl (by decide +kernel) (fun v w h => h))) ?_
    refine gSt (gStep_run rfl (gRun_pickT 16 17 18 _ rfl rfl (by decide +kernel) (by decide +kernel) (fun v w h => h) (fun v w h => h))) ?_
    exact gSt0
  · intro W hC
    refine gFi 11 rfl ?_
    rintro _ rfl
    refine gFi 12 rfl ?_
    rintro _ rfl
    refine gFi 13 rfl ?_
    rintro _ rfl
    refine gFi 14 rfl ?_
    rintro _ rfl
    refine gFi 15 rfl ?_
    rintro _ rfl
    refine gFi 16 rfl ?_
    rintro _ rfl
    refine gFi 17 rfl ?_
    rintro _ rfl
    refine gFi 18 rfl ?_
    rintro _ rfl
    refine gFi0 ?_
    simp only [List.drop_succ_cons, List.drop_zero, Act.put, List.setIfInBounds_toArray, List.set_cons_succ, List.set_cons_zero]
    have HC := hide hC
    clear hC h1
    go_upto_region 4 with fail
    refine wp_gen (fun W => OcSt w k ng fd r W) HC.out ?_
    clear HC
    rintro W1 h1
    refine wp_region_grow 13 [(20, .val (.pointer (some ⟨w.heap.size + 1, 1, none⟩))), (21, .val (.int .i64 (fd : Nat))), (22, .val (.agg #[.int .i64 (k 0), .int .i64 (k 1), .int .i64 (k 2), .int .i64 (k 3), .int .i64 (k 4)])), (23, .val (.int .i64 ((m : Nat) : Int))), (24, .val (.bool true)), (25, .val (.bool true)), (26, .val (.pointer (some ⟨w.heap.size + 1, 2, none⟩))), (27, .val (.agg #[.int .u64 (dgl (r) 0 : Nat), .int .u64 (dgl (r) 1 : Nat), .int .u64 (dgl (r) 2 : Nat), .int .u64 (dgl (r) 3 : Nat), .int .u64 (dgl (r) 4 : Nat), .int .u64 (dgl (r) 5 : Nat), .int .u64 (dgl (r) 6 : Nat), .int .u64 (dgl (r) 7 : Nat)])), (28, .val (.pointer (some ⟨w.heap.size, 1, none⟩))), (29, .val (.int .i64 (k 1))), (30, .val (.int .i64 (k 1 - 2))), (31, .val (.bool true)), (32, .val (.bool true))]
      (fun W => OcSt w k ng fd r W) mixedOk (by kernel_rfl) (by kernel_rfl) (h1.below (Below.refl _ _).drew) (fun W W' h hb => h.below hb) ?_ ?_
    · refine gSt (gStep_run rfl ?_) ?_
      · intro ρ W hC hc hf hL
        have e3 : ρ (.tmp 3) = .pointer (some ⟨w.heap.size + 1, 0, none⟩) := hL 3 (by decide +kernel)
        simp [go_sem, hc, hf, e3]
        exact ⟨Below.refl _ _, rfl⟩
      refine gSt (gStep_run rfl ?_) ?_
      · intro ρ W hC hc hf hL
        have e20 : ρ (.tmp 20) = .pointer (some ⟨w.heap.size + 1, 1, none⟩) := hL 20 (by decide +kernel)
        have hl := hC.p1
        simp [go_sem, hc, hf, e20, hl]
        exact ⟨Below.refl _ _, rfl⟩
      refine gSt (gStep_run rfl ?_) ?_
      · intro ρ W hC hc hf hL
        have e2 : ρ (.tmp 2) = .pointer (some ⟨w.heap.size, 0, none⟩) := hL 2 (by decide +kernel)
        have g0 := hC.rk 0 (by decide)
        have g1 := hC.rk 1 (by decide)
        have g2 := hC.rk 2 (by decide)
        have g3 := hC.rk 3 (by decide)
        have g4 := hC.rk 4 (by decide)
        simp [go_sem, hc, hf, e2, g0, g1, g2, g3, g4]
        exact ⟨Below.refl _ _, rfl⟩
      refine gSt (gStep_run rfl ?_) ?_
      · intro ρ W hC hc hf hL
        have e22 : ρ (.tmp 22) = .agg #[.int .i64 (k 0), .int .i64 (k 1), .int .i64 (k 2), .int .i64 (k 3), .int .i64 (k 4)] := hL 22 (by decide +kernel)
        simp [go_sem, hc, hf, e22]
        refine (HON.out W).mono ?_
        rintro e w' ⟨rfl, hb⟩
        exact ⟨_, rfl, by first | exact hb | (subst hb; exact Below.refl _ _), rfl⟩
      refine gSt (gStep_run rfl ?_) ?_
      · intro ρ W hC hc hf hL
        have e21 : ρ (.tmp 21) = .int .i64 (fd : Nat) := hL 21 (by decide +kernel)
        have e23 : ρ (.tmp 23) = .int .i64 ((m : Nat) : Int) := hL 23 (by decide +kernel)
        have hl := HEQ.out
        simp [go_sem, hc, hf, e21, e23, hl]
        exact ⟨Below.refl _ _, rfl⟩
      refine gSt (gStep_run rfl (gRun_move 24 25 (.inl rfl) rfl (by decide +kernel) (fun v w h => h))) ?_
      refine gSt (gStep_on 5 25 true rfl rfl (by decide +kernel) (fun v w h => h) ?_) ?_
      · intro ρ W hC hc hf hL
        have e3 : ρ (.tmp 3) = .pointer (some ⟨w.heap.size + 1, 0, none⟩) := hL 3 (by decide +kernel)
        simp [go_sem, hc, hf, e3]
        exact ⟨Below.refl _ _, rfl⟩
      refine gSt (gStep_on 5 25 true rfl rfl (by decide +kernel) (fun v w h => h) ?_) ?_
      · intro ρ W hC hc hf hL
        have e26 : ρ (.tmp 26) = .pointer (some ⟨w.heap.size + 1, 2, none⟩) := hL 26 (by decide +kernel)
        have q0 := hC.p2 0 (by decide)
        have q1 := hC.p2 1 (by decide)
        have q2 := hC.p2 2 (by decide)
        have q3 := hC.p2 3 (by decide)
        have q4 := hC.p2 4 (by decide)
        have q5 := hC.p2 5 (by decide)
        have q6 := hC.p2 6 (by decide)
        have q7 := hC.p2 7 (by decide)
        simp only [Nat.reduceAdd] at q0 q1 q2 q3 q4 q5 q6 q7
        simp [go_sem, hc, hf, e26, q0, q1, q2, q3, q4, q5, q6, q7]
        exact ⟨Below.refl _ _, rfl⟩
      refine gSt (gStep_on 5 25 true rfl rfl (by decide +kernel) (fun v w h => h) ?_) ?_
      · intro ρ W hC hc hf hL
        have e2 : ρ (.tmp 2) = .pointer (some ⟨w.heap.size, 0, none⟩) := hL 2 (by decide +kernel)
        simp [go_sem, hc, hf, e2]
        exact ⟨Below.refl _ _, rfl⟩
      refine gSt (gStep_on 5 25 true rfl rfl (by decide +kernel) (fun v w h => h) ?_) ?_
      · intro ρ W hC hc hf hL
        have e28 : ρ (.tmp 28) = .pointer (some ⟨w.heap.size, 1, none⟩) := hL 28 (by decide +kernel)
        have hl := hC.rk 1 (by decide)
        simp [go_sem, hc, hf, e28, hl]
        exact ⟨Below.refl _ _, rfl⟩
      refine gSt (gStep_on 5 25 true rfl rfl (by decide +kernel) (fun v w h => h) ?_) ?_
      · intro ρ W hC hc hf hL
        have e29 : ρ (.tmp 29) = .int .i64 (k 1) := hL 29 (by decide +kernel)
        simp [go_sem, hc, hf, e29, hw1]
        exact ⟨Below.refl _ _, rfl⟩
      refine gSt (gStep_on 5 25 true rfl rfl (by decide +kernel) (fun v w h => h) ?_) ?_
      · intro ρ W hC hc hf hL
        have e27 : ρ (.tmp 27) = .agg #[.int .u64 (dgl (r) 0 : Nat), .int .u64 (dgl (r) 1 : Nat), .int .u64 (dgl (r) 2 : Nat), .int .u64 (dgl (r) 3 : Nat), .int .u64 (dgl (r) 4 : Nat), .int .u64 (dgl (r) 5 : Nat), .int .u64 (dgl (r) 6 : Nat), .int .u64 (dgl (r) 7 : Nat)] := hL 27 (by decide +kernel)
        have e30 : ρ (.tmp 30) = .int .i64 (k 1 - 2) := hL 30 (by decide +kernel)
        simp [go_sem, hc, hf, e27, e30]
        refine (HBI.out W).mono ?_
        rintro e w' ⟨rfl, hb⟩
        exact ⟨_, rfl, by first | exact hb | (subst hb; exact Below.refl _ _), rfl⟩
      refine gSt (gStep_run rfl (gRun_pickT 25 31 32 _ rfl rfl (by decide +kernel) (by decide +kernel) (fun v w h => h) (fun v w h => h))) ?_
      exact gSt0
    · intro W hC
      refine gFi 20 rfl ?_
      rintro _ rfl
      refine gFi 21 rfl ?_
      rintro _ rfl
      refine gFi 22 rfl ?_
      rintro _ rfl
      refine gFi 23 rfl ?_
      rintro _ rfl
      refine gFi 24 rfl ?_
      rintro _ rfl
      refine gFi 25 rfl ?_
      rintro _ rfl
      refine gFi 26 rfl ?_
      rintro _ rfl
      refine gFi 27 rfl ?_
      rintro _ rfl
      refine gFi 28 rfl ?_
      rintro _ rfl
      refine gFi 29 rfl ?_
      rintro _ rfl
      refine gFi 30 rfl ?_
      rintro _ rfl
      refine gFi 31 rfl ?_
      rintro _ rfl
      refine gFi 32 rfl ?_
      rintro _ rfl
      refine gFi0 ?_
      simp only [List.drop_succ_cons, List.drop_zero, Act.put, List.setIfInBounds_toArray, List.set_cons_succ, List.set_cons_zero]
      have HB := hide hC.bel
      clear hC h1
      go_wp2
      go_ret
      exact ⟨rfl, HB.out⟩

set_option maxHeartbeats 2000000 in
theorem of1_sig (k : Nat → Int) (ng : Bool) (fd r m : Nat) (hr : r < QQ) (h0 : ¬ r = 0) (HEQ : Hid (((fd : Int) == (m : Int)) = true)) (hw1 : IntKind.i64.wrap (k 1 - 2) = k 1 - 2) (HBI : Hid (∀ w, Calls Tryd.prog 133 #[.agg #[.int .u64 (dgl (r) 0 : Nat), .int .u64 (dgl (r) 1 : Nat), .int .u64 (dgl (r) 2 : Nat), .int .u64 (dgl (r) 3 : Nat), .int .u64 (dgl (r) 4 : Nat), .int .u64 (dgl (r) 5 : Nat), .int .u64 (dgl (r) 6 : Nat), .int .u64 (dgl (r) 7 : Nat)], .int .i64 (k 1 - 2)] w fun e w' => e = .returned (.bool false) ∧ Below w.heap.size w w'))
    (HON : Hid (∀ w, Calls Tryd.prog 110 #[.agg #[.int .i64 (k 0), .int .i64 (k 1), .int .i64 (k 2), .int .i64 (k 3), .int .i64 (k 4)]] w fun e w' => e = .returned (.int .i64 ((m : Nat) : Int)) ∧ Below w.heap.size w w')) (w : World) :
    Calls Tryd.prog 132 #[.agg #[.int .i64 (k 0), .int .i64 (k 1), .int .i64 (k 2), .int .i64 (k 3), .int .i64 (k 4)], .agg #[.bool ng, .int .i64 ((fd : Nat)), .int .u64 (dgl r 0 : Nat), .int .u64 (dgl r 1 : Nat), .int .u64 (dgl r 2 : Nat), .int .u64 (dgl r 3 : Nat), .int .u64 (dgl r 4 : Nat), .int .u64 (dgl r 5 : Nat), .int .u64 (dgl r 6 : Nat), .int .u64 (dgl r 7 : Nat)]] w fun e w' => e = .returned (.int .i64 1) ∧ Below w.heap.size w w' := by
  have HST := hide (ocSt_start w k ng fd r)
  have hz := fun w => wide_eqz hr w
  rw [decide_eq_false h0] at hz
  clear hr h0
  go_enter Tryd.func132, Tryd.ntmps132
  go_upto_region 2 with fail
  refine wp_gen (fun W => OcSt w k ng fd r W) HST.out ?_
  clear HST hz
  rintro W1 h1
  refine wp_region_grow 8 [(11, .val (.pointer (some ⟨w.heap.size + 1, 1, none⟩))), (12, .val (.int .i64 (fd : Nat))), (13, .val (.agg #[.int .i64 (k 0), .int .i64 (k 1), .int .i64 (k 2), .int .i64 (k 3), .int .i64 (k 4)])), (14, .val (.int .i64 ((m : Nat) : Int))), (15, .val (.bool true)), (16, .val (.bool true)), (17, .val (.bool false)), (18, .val (.bool false))]
    (fun W => OcSt w k ng fd r W) mixedOk (by kernel_rfl) (by kernel_rfl) (h1.below (Below.refl _ _).drew) (fun W W' h hb => h.below hb) ?_ ?_
  · refine gSt (gStep_run rfl ?_) ?_
    · intro ρ W hC hc hf hL
      have e3 : ρ (.tmp 3) = .pointer (some ⟨w.heap.size + 1, 0, none⟩) := hL 3 (by decide +kernel)
      simp [go_sem, hc, hf, e3]
      exact ⟨Below.refl _ _, rfl⟩
    refine gSt (gStep_run rfl ?_) ?_
    · intro ρ W hC hc hf hL
      have e11 : ρ (.tmp 11) = .pointer (some ⟨w.heap.size + 1, 1, none⟩) := hL 11 (by decide +kernel)
      have hl := hC.p1
      simp [go_sem, hc, hf, e11, hl]
      exact ⟨Below.refl _ _, rfl⟩
    refine gSt (gStep_run rfl ?_) ?_
    · intro ρ W hC hc hf hL
      have e2 : ρ (.tmp 2) = .pointer (some ⟨w.heap.size, 0, none⟩) := hL 2 (by decide +kernel)
      have g0 := hC.rk 0 (by decide)
      have g1 := hC.rk 1 (by decide)
      have g2 := hC.rk 2 (by decide)
      have g3 := hC.rk 3 (by decide)
      have g4 := hC.rk 4 (by decide)
      simp [go_sem, hc, hf, e2, g0, g1, g2, g3, g4]
      exact ⟨Below.refl _ _, rfl⟩
    refine gSt (gStep_run rfl ?_) ?_
    · intro ρ W hC hc hf hL
      have e13 : ρ (.tmp 13) = .agg #[.int .i64 (k 0), .int .i64 (k 1), .int .i64 (k 2), .int .i64 (k 3), .int .i64 (k 4)] := hL 13 (by decide +kernel)
      simp [go_sem, hc, hf, e13]
      refine (HON.out W).mono ?_
      rintro e w' ⟨rfl, hb⟩
      exact ⟨_, rfl, by first | exact hb | (subst hb; exact Below.refl _ _), rfl⟩
    refine gSt (gStep_run rfl ?_) ?_
    · intro ρ W hC hc hf hL
      have e12 : ρ (.tmp 12) = .int .i64 (fd : Nat) := hL 12 (by decide +kernel)
      have e14 : ρ (.tmp 14) = .int .i64 ((m : Nat) : Int) := hL 14 (by decide +kernel)
      have hl := HEQ.out
      simp [go_sem, hc, hf, e12, e14, hl]
      exact ⟨Below.refl _ _, rfl⟩
    refine gSt (gStep_run rfl (gRun_move 15 16 (.inl rfl) rfl (by decide +kernel) (fun v w h => h))) ?_
    refine gSt (gStep_on 5 16 true rfl rfl (by decide +kernel) (fun v w h => h) (gRun_move 5 17 (.inl rfl) rfl (by decide +kernel) (fun v w h => h))) ?_
    refine gSt (gStep_run rfl (gRun_pickT 16 17 18 _ rfl rfl (by decide +kernel) (by decide +kernel) (fun v w h => h) (fun v w h => h))) ?_
    exact gSt0
  · intro W hC
    refine gFi 11 rfl ?_
    rintro _ rfl
    refine gFi 12 rfl ?_
    rintro _ rfl
    refine gFi 13 rfl ?_
    rintro _ rfl
    refine gFi 14 rfl ?_
    rintro _ rfl
    refine gFi 15 rfl ?_
    rintro _ rfl
    refine gFi 16 rfl ?_
    rintro _ rfl
    refine gFi 17 rfl ?_
    rintro _ rfl
    refine gFi 18 rfl ?_
    rintro _ rfl
    refine gFi0 ?_
    simp only [List.drop_succ_cons, List.drop_zero, Act.put, List.setIfInBounds_toArray, List.set_cons_succ, List.set_cons_zero]
    have HC := hide hC
    clear hC h1
    go_upto_region 4 with fail
    refine wp_gen (fun W => OcSt w k ng fd r W) HC.out ?_
    clear HC
    rintro W1 h1
    refine wp_region_grow 13 [(20, .val (.pointer (some ⟨w.heap.size + 1, 1, none⟩))), (21, .val (.int .i64 (fd : Nat))), (22, .val (.agg #[.int .i64 (k 0), .int .i64 (k 1), .int .i64 (k 2), .int .i64 (k 3), .int .i64 (k 4)])), (23, .val (.int .i64 ((m : Nat) : Int))), (24, .val (.bool true)), (25, .val (.bool true)), (26, .val (.pointer (some ⟨w.heap.size + 1, 2, none⟩))), (27, .val (.agg #[.int .u64 (dgl (r) 0 : Nat), .int .u64 (dgl (r) 1 : Nat), .int .u64 (dgl (r) 2 : Nat), .int .u64 (dgl (r) 3 : Nat), .int .u64 (dgl (r) 4 : Nat), .int .u64 (dgl (r) 5 : Nat), .int .u64 (dgl (r) 6 : Nat), .int .u64 (dgl (r) 7 : Nat)])), (28, .val (.pointer (some ⟨w.heap.size, 1, none⟩))), (29, .val (.int .i64 (k 1))), (30, .val (.int .i64 (k 1 - 2))), (31, .val (.bool false)), (32, .val (.bool false))]
      (fun W => OcSt w k ng fd r W) mixedOk (by kernel_rfl) (by kernel_rfl) (h1.below (Below.refl _ _).drew) (fun W W' h hb => h.below hb) ?_ ?_
    · refine gSt (gStep_run rfl ?_) ?_
      · intro ρ W hC hc hf hL
        have e3 : ρ (.tmp 3) = .pointer (some ⟨w.heap.size + 1, 0, none⟩) := hL 3 (by decide +kernel)
        simp [go_sem, hc, hf, e3]
        exact ⟨Below.refl _ _, rfl⟩
      refine gSt (gStep_run rfl ?_) ?_
      · intro ρ W hC hc hf hL
        have e20 : ρ (.tmp 20) = .pointer (some ⟨w.heap.size + 1, 1, none⟩) := hL 20 (by decide +kernel)
        have hl := hC.p1
        simp [go_sem, hc, hf, e20, hl]
        exact ⟨Below.refl _ _, rfl⟩
      refine gSt (gStep_run rfl ?_) ?_
      · intro ρ W hC hc hf hL
        have e2 : ρ (.tmp 2) = .pointer (some ⟨w.heap.size, 0, none⟩) := hL 2 (by decide +kernel)
        have g0 := hC.rk 0 (by decide)
        have g1 := hC.rk 1 (by decide)
        have g2 := hC.rk 2 (by decide)
        have g3 := hC.rk 3 (by decide)
        have g4 := hC.rk 4 (by decide)
        simp [go_sem, hc, hf, e2, g0, g1, g2, g3, g4]
        exact ⟨Below.refl _ _, rfl⟩
      refine gSt (gStep_run rfl ?_) ?_
      · intro ρ W hC hc hf hL
        have e22 : ρ (.tmp 22) = .agg #[.int .i64 (k 0), .int .i64 (k 1), .int .i64 (k 2), .int .i64 (k 3), .int .i64 (k 4)] := hL 22 (by decide +kernel)
        simp [go_sem, hc, hf, e22]
        refine (HON.out W).mono ?_
        rintro e w' ⟨rfl, hb⟩
        exact ⟨_, rfl, by first | exact hb | (subst hb; exact Below.refl _ _), rfl⟩
      refine gSt (gStep_run rfl ?_) ?_
      · intro ρ W hC hc hf hL
        have e21 : ρ (.tmp 21) = .int .i64 (fd : Nat) := hL 21 (by decide +kernel)
        have e23 : ρ (.tmp 23) = .int .i64 ((m : Nat) : Int) := hL 23 (by decide +kernel)
        have hl := HEQ.out
        simp [go_sem, hc, hf, e21, e23, hl]
        exact ⟨Below.refl _ _, rfl⟩
      refine gSt (gStep_run rfl (gRun_move 24 25 (.inl rfl) rfl (by decide +kernel) (fun v w h => h))) ?_
      refine gSt (gStep_on 5 25 true rfl rfl (by decide +kernel) (fun v w h => h) ?_) ?_
      · intro ρ W hC hc hf hL
        have e3 : ρ (.tmp 3) = .pointer (some ⟨w.heap.size + 1, 0, none⟩) := hL 3 (by decide +kernel)
        simp [go_sem, hc, hf, e3]
        exact ⟨Below.refl _ _, rfl⟩
      refine gSt (gStep_on 5 25 true rfl rfl (by decide +kernel) (fun v w h => h) ?_) ?_
      · intro ρ W hC hc hf hL
        have e26 : ρ (.tmp 26) = .pointer (some ⟨w.heap.size + 1, 2, none⟩) := hL 26 (by decide +kernel)
        have q0 := hC.p2 0 (by decide)
        have q1 := hC.p2 1 (by decide)
        have q2 := hC.p2 2 (by decide)
        have q3 := hC.p2 3 (by decide)
        have q4 := hC.p2 4 (by decide)
        have q5 := hC.p2 5 (by decide)
        have q6 := hC.p2 6 (by decide)
        have q7 := hC.p2 7 (by decide)
        simp only [Nat.reduceAdd] at q0 q1 q2 q3 q4 q5 q6 q7
        simp [go_sem, hc, hf, e26, q0, q1, q2, q3, q4, q5, q6, q7]
        exact ⟨Below.refl _ _, rfl⟩
      refine gSt (gStep_on 5 25 true rfl rfl (by decide +kernel) (fun v w h => h) ?_) ?_
      · intro ρ W hC hc hf hL
        have e2 : ρ (.tmp 2) = .pointer (some ⟨w.heap.size, 0, none⟩) := hL 2 (by decide +kernel)
        simp [go_sem, hc, hf, e2]
        exact ⟨Below.refl _ _, rfl⟩
      refine gSt (gStep_on 5 25 true rfl rfl (by decide +kernel) (fun v w h => h) ?_) ?_
      · intro ρ W hC hc hf hL
        have e28 : ρ (.tmp 28) = .pointer (some ⟨w.heap.size, 1, none⟩) := hL 28 (by decide +kernel)
        have hl := hC.rk 1 (by decide)
        simp [go_sem, hc, hf, e28, hl]
        exact ⟨Below.refl _ _, rfl⟩
      refine gSt (gStep_on 5 25 true rfl rfl (by decide +kernel) (fun v w h => h) ?_) ?_
      · intro ρ W hC hc hf hL
        have e29 : ρ (.tmp 29) = .int .i64 (k 1) := hL 29 (by decide +kernel)
        simp [go_sem, hc, hf, e29, hw1]
        exact ⟨Below.refl _ _, rfl⟩
      refine gSt (gStep_on 5 25 true rfl rfl (by decide +kernel) (fun v w h => h) ?_) ?_
      · intro ρ W hC hc hf hL
        have e27 : ρ (.tmp 27) = .agg #[.int .u64 (dgl (r) 0 : Nat), .int .u64 (dgl (r) 1 : Nat), .int .u64 (dgl (r) 2 : Nat), .int .u64 (dgl (r) 3 : Nat), .int .u64 (dgl (r) 4 : Nat), .int .u64 (dgl (r) 5 : Nat), .int .u64 (dgl (r) 6 : Nat), .int .u64 (dgl (r) 7 : Nat)] := hL 27 (by decide +kernel)
        have e30 : ρ (.tmp 30) = .int .i64 (k 1 - 2) := hL 30 (by decide +kernel)
        simp [go_sem, hc, hf, e27, e30]
        refine (HBI.out W).mono ?_
        rintro e w' ⟨rfl, hb⟩
        exact ⟨_, rfl, by first | exact hb | (subst hb; exact Below.refl _ _), rfl⟩
      refine gSt (gStep_run rfl (gRun_pickT 25 31 32 _ rfl rfl (by decide +kernel) (by decide +kernel) (fun v w h => h) (fun v w h => h))) ?_
      exact gSt0
    · intro W hC
      refine gFi 20 rfl ?_
      rintro _ rfl
      refine gFi 21 rfl ?_
      rintro _ rfl
      refine gFi 22 rfl ?_
      rintro _ rfl
      refine gFi 23 rfl ?_
      rintro _ rfl
      refine gFi 24 rfl ?_
      rintro _ rfl
      refine gFi 25 rfl ?_
      rintro _ rfl
      refine gFi 26 rfl ?_
      rintro _ rfl
      refine gFi 27 rfl ?_
      rintro _ rfl
      refine gFi 28 rfl ?_
      rintro _ rfl
      refine gFi 29 rfl ?_
      rintro _ rfl
      refine gFi 30 rfl ?_
      rintro _ rfl
      refine gFi 31 rfl ?_
      rintro _ rfl
      refine gFi 32 rfl ?_
      rintro _ rfl
      refine gFi0 ?_
      simp only [List.drop_succ_cons, List.drop_zero, Act.put, List.setIfInBounds_toArray, List.set_cons_succ, List.set_cons_zero]
      have HC := hide hC
      clear hC h1
      go_upto_region 6 with fail
      refine wp_gen (fun W => OcSt w k ng fd r W) HC.out ?_
      clear HC
      rintro W1 h1
      refine wp_region_grow 5 [(34, .val (.pointer (some ⟨w.heap.size + 1, 1, none⟩))), (35, .val (.int .i64 (fd : Nat))), (36, .val (.agg #[.int .i64 (k 0), .int .i64 (k 1), .int .i64 (k 2), .int .i64 (k 3), .int .i64 (k 4)])), (37, .val (.int .i64 ((m : Nat) : Int))), (38, .val (.bool true))]
        (fun W => OcSt w k ng fd r W) mixedOk (by kernel_rfl) (by kernel_rfl) (h1.below (Below.refl _ _).drew) (fun W W' h hb => h.below hb) ?_ ?_
      · refine gSt (gStep_run rfl ?_) ?_
        · intro ρ W hC hc hf hL
          have e3 : ρ (.tmp 3) = .pointer (some ⟨w.heap.size + 1, 0, none⟩) := hL 3 (by decide +kernel)
          simp [go_sem, hc, hf, e3]
          exact ⟨Below.refl _ _, rfl⟩
        refine gSt (gStep_run rfl ?_) ?_
        · intro ρ W hC hc hf hL
          have e34 : ρ (.tmp 34) = .pointer (some ⟨w.heap.size + 1, 1, none⟩) := hL 34 (by decide +kernel)
          have hl := hC.p1
          simp [go_sem, hc, hf, e34, hl]
          exact ⟨Below.refl _ _, rfl⟩
        refine gSt (gStep_run rfl ?_) ?_
        · intro ρ W hC hc hf hL
          have e2 : ρ (.tmp 2) = .pointer (some ⟨w.heap.size, 0, none⟩) := hL 2 (by decide +kernel)
          have g0 := hC.rk 0 (by decide)
          have g1 := hC.rk 1 (by decide)
          have g2 := hC.rk 2 (by decide)
          have g3 := hC.rk 3 (by decide)
          have g4 := hC.rk 4 (by decide)
          simp [go_sem, hc, hf, e2, g0, g1, g2, g3, g4]
          exact ⟨Below.refl _ _, rfl⟩
        refine gSt (gStep_run rfl ?_) ?_
        · intro ρ W hC hc hf hL
          have e36 : ρ (.tmp 36) = .agg #[.int .i64 (k 0), .int .i64 (k 1), .int .i64 (k 2), .int .i64 (k 3), .int .i64 (k 4)] := hL 36 (by decide +kernel)
          simp [go_sem, hc, hf, e36]
          refine (HON.out W).mono ?_
          rintro e w' ⟨rfl, hb⟩
          exact ⟨_, rfl, by first | exact hb | (subst hb; exact Below.refl _ _), rfl⟩
        refine gSt (gStep_run rfl ?_) ?_
        · intro ρ W hC hc hf hL
          have e35 : ρ (.tmp 35) = .int .i64 (fd : Nat) := hL 35 (by decide +kernel)
          have e37 : ρ (.tmp 37) = .int .i64 ((m : Nat) : Int) := hL 37 (by decide +kernel)
          have hl := HEQ.out
          simp [go_sem, hc, hf, e35, e37, hl]
          exact ⟨Below.refl _ _, rfl⟩
        exact gSt0
      · intro W hC
        refine gFi 34 rfl ?_
        rintro _ rfl
        refine gFi 35 rfl ?_
        rintro _ rfl
        refine gFi 36 rfl ?_
        rintro _ rfl
        refine gFi 37 rfl ?_
        rintro _ rfl
        refine gFi 38 rfl ?_
        rintro _ rfl
        refine gFi0 ?_
        simp only [List.drop_succ_cons, List.drop_zero, Act.put, List.setIfInBounds_toArray, List.set_cons_succ, List.set_cons_zero]
        have HB := hide hC.bel
        clear hC h1
        go_wp2
        go_ret
        exact ⟨rfl, HB.out⟩

set_option maxHeartbeats 2000000 in
theorem of1_norm (k : Nat → Int) (ng : Bool) (fd r m : Nat) (hr : r < QQ) (h0 : ¬ r = 0) (HF : Hid (((fd : Int) != 0) = true)) (HEQ : Hid (((fd : Int) == (m : Int)) = false))
    (HON : Hid (∀ w, Calls Tryd.prog 110 #[.agg #[.int .i64 (k 0), .int .i64 (k 1), .int .i64 (k 2), .int .i64 (k 3), .int .i64 (k 4)]] w fun e w' => e = .returned (.int .i64 ((m : Nat) : Int)) ∧ Below w.heap.size w w')) (w : World) :
    Calls Tryd.prog 132 #[.agg #[.int .i64 (k 0), .int .i64 (k 1), .int .i64 (k 2), .int .i64 (k 3), .int .i64 (k 4)], .agg #[.bool ng, .int .i64 ((fd : Nat)), .int .u64 (dgl r 0 : Nat), .int .u64 (dgl r 1 : Nat), .int .u64 (dgl r 2 : Nat), .int .u64 (dgl r 3 : Nat), .int .u64 (dgl r 4 : Nat), .int .u64 (dgl r 5 : Nat), .int .u64 (dgl r 6 : Nat), .int .u64 (dgl r 7 : Nat)]] w fun e w' => e = .returned (.int .i64 4) ∧ Below w.heap.size w w' := by
  have HST := hide (ocSt_start w k ng fd r)
  have hz := fun w => wide_eqz hr w
  rw [decide_eq_false h0] at hz
  clear hr h0
  go_enter Tryd.func132, Tryd.ntmps132
  go_upto_region 2 with fail
  refine wp_gen (fun W => OcSt w k ng fd r W) HST.out ?_
  clear HST hz
  rintro W1 h1
  refine wp_region_grow 8 [(11, .val (.pointer (some ⟨w.heap.size + 1, 1, none⟩))), (12, .val (.int .i64 (fd : Nat))), (13, .val (.agg #[.int .i64 (k 0), .int .i64 (k 1), .int .i64 (k 2), .int .i64 (k 3), .int .i64 (k 4)])), (14, .val (.int .i64 ((m : Nat) : Int))), (15, .val (.bool false)), (16, .val (.bool false)), (17, .val (undef)), (18, .val (.bool false))]
    (fun W => OcSt w k ng fd r W) mixedOk (by kernel_rfl) (by kernel_rfl) (h1.below (Below.refl _ _).drew) (fun W W' h hb => h.below hb) ?_ ?_
  · refine gSt (gStep_run rfl ?_) ?_
    · intro ρ W hC hc hf hL
      have e3 : ρ (.tmp 3) = .pointer (some ⟨w.heap.size + 1, 0, none⟩) := hL 3 (by decide +kernel)
      simp [go_sem, hc, hf, e3]
      exact ⟨Below.refl _ _, rfl⟩
    refine gSt (gStep_run rfl ?_) ?_
    · intro ρ W hC hc hf hL
      have e11 : ρ (.tmp 11) = .pointer (some ⟨w.heap.size + 1, 1, none⟩) := hL 11 (by decide +kernel)
      have hl := hC.p1
      simp [go_sem, hc, hf, e11, hl]
      exact ⟨Below.refl _ _, rfl⟩
    refine gSt (gStep_run rfl ?_) ?_
    · intro ρ W hC hc hf hL
      have e2 : ρ (.tmp 2) = .pointer (some ⟨w.heap.size, 0, none⟩) := hL 2 (by decide +kernel)
      have g0 := hC.rk 0 (by decide)
      have g1 := hC.rk 1 (by decide)
      have g2 := hC.rk 2 (by decide)
      have g3 := hC.rk 3 (by decide)
      have g4 := hC.rk 4 (by decide)
      simp [go_sem, hc, hf, e2, g0, g1, g2, g3, g4]
      exact ⟨Below.refl _ _, rfl⟩
    refine gSt (gStep_run rfl ?_) ?_
    · intro ρ W hC hc hf hL
      have e13 : ρ (.tmp 13) = .agg #[.int .i64 (k 0), .int .i64 (k 1), .int .i64 (k 2), .int .i64 (k 3), .int .i64 (k 4)] := hL 13 (by decide +kernel)
      simp [go_sem, hc, hf, e13]
      refine (HON.out W).mono ?_
      rintro e w' ⟨rfl, hb⟩
      exact ⟨_, rfl, by first | exact hb | (subst hb; exact Below.refl _ _), rfl⟩
    refine gSt (gStep_run rfl ?_) ?_
    · intro ρ W hC hc hf hL
      have e12 : ρ (.tmp 12) = .int .i64 (fd : Nat) := hL 12 (by decide +kernel)
      have e14 : ρ (.tmp 14) = .int .i64 ((m : Nat) : Int) := hL 14 (by decide +kernel)
      have hl := HEQ.out
      simp [go_sem, hc, hf, e12, e14, hl]
      exact ⟨Below.refl _ _, rfl⟩
    refine gSt (gStep_run rfl (gRun_move 15 16 (.inl rfl) rfl (by decide +kernel) (fun v w h => h))) ?_
    refine gSt (gStep_off 5 16 true rfl rfl (by decide +kernel) (fun v w h => h) (fun w => rfl)) ?_
    refine gSt (gStep_run rfl (gRun_pickF 16 18 _ _ rfl rfl (by decide +kernel) (fun v w h => h) (fun w => rfl))) ?_
    exact gSt0
  · intro W hC
    refine gFi 11 rfl ?_
    rintro _ rfl
    refine gFi 12 rfl ?_
    rintro _ rfl
    refine gFi 13 rfl ?_
    rintro _ rfl
    refine gFi 14 rfl ?_
    rintro _ rfl
    refine gFi 15 rfl ?_
    rintro _ rfl
    refine gFi 16 rfl ?_
    rintro _ rfl
    refine gFi 17 rfl ?_
    rintro _ rfl
    refine gFi 18 rfl ?_
    rintro _ rfl
    refine gFi0 ?_
    simp only [List.drop_succ_cons, List.drop_zero, Act.put, List.setIfInBounds_toArray, List.set_cons_succ, List.set_cons_zero]
    have HC := hide hC
    clear hC h1
    go_upto_region 4 with fail
    refine wp_gen (fun W => OcSt w k ng fd r W) HC.out ?_
    clear HC
    rintro W1 h1
    refine wp_region_grow 13 [(20, .val (.pointer (some ⟨w.heap.size + 1, 1, none⟩))), (21, .val (.int .i64 (fd : Nat))), (22, .val (.agg #[.int .i64 (k 0), .int .i64 (k 1), .int .i64 (k 2), .int .i64 (k 3), .int .i64 (k 4)])), (23, .val (.int .i64 ((m : Nat) : Int))), (24, .val (.bool false)), (25, .val (.bool false)), (26, .val (undef)), (27, .val (undef)), (28, .val (undef)), (29, .val (undef)), (30, .val (undef)), (31, .val (undef)), (32, .val (.bool false))]
      (fun W => OcSt w k ng fd r W) mixedOk (by kernel_rfl) (by kernel_rfl) (h1.below (Below.refl _ _).drew) (fun W W' h hb => h.below hb) ?_ ?_
    · refine gSt (gStep_run rfl ?_) ?_
      · intro ρ W hC hc hf hL
        have e3 : ρ (.tmp 3) = .pointer (some ⟨w.heap.size + 1, 0, none⟩) := hL 3 (by decide +kernel)
        simp [go_sem, hc, hf, e3]
        exact ⟨Below.refl _ _, rfl⟩
      refine gSt (gStep_run rfl ?_) ?_
      · intro ρ W hC hc hf hL
        have e20 : ρ (.tmp 20) = .pointer (some ⟨w.heap.size + 1, 1, none⟩) := hL 20 (by decide +kernel)
        have hl := hC.p1
        simp [go_sem, hc, hf, e20, hl]
        exact ⟨Below.refl _ _, rfl⟩
      refine gSt (gStep_run rfl ?_) ?_
      · intro ρ W hC hc hf hL
        have e2 : ρ (.tmp 2) = .pointer (some ⟨w.heap.size, 0, none⟩) := hL 2 (by decide +kernel)
        have g0 := hC.rk 0 (by decide)
        have g1 := hC.rk 1 (by decide)
        have g2 := hC.rk 2 (by decide)
        have g3 := hC.rk 3 (by decide)
        have g4 := hC.rk 4 (by decide)
        simp [go_sem, hc, hf, e2, g0, g1, g2, g3, g4]
        exact ⟨Below.refl _ _, rfl⟩
      refine gSt (gStep_run rfl ?_) ?_
      · intro ρ W hC hc hf hL
        have e22 : ρ (.tmp 22) = .agg #[.int .i64 (k 0), .int .i64 (k 1), .int .i64 (k 2), .int .i64 (k 3), .int .i64 (k 4)] := hL 22 (by decide +kernel)
        simp [go_sem, hc, hf, e22]
        refine (HON.out W).mono ?_
        rintro e w' ⟨rfl, hb⟩
        exact ⟨_, rfl, by first | exact hb | (subst hb; exact Below.refl _ _), rfl⟩
      refine gSt (gStep_run rfl ?_) ?_
      · intro ρ W hC hc hf hL
        have e21 : ρ (.tmp 21) = .int .i64 (fd : Nat) := hL 21 (by decide +kernel)
        have e23 : ρ (.tmp 23) = .int .i64 ((m : Nat) : Int) := hL 23 (by decide +kernel)
        have hl := HEQ.out
        simp [go_sem, hc, hf, e21, e23, hl]
        exact ⟨Below.refl _ _, rfl⟩
      refine gSt (gStep_run rfl (gRun_move 24 25 (.inl rfl) rfl (by decide +kernel) (fun v w h => h))) ?_
      refine gSt (gStep_off 5 25 true rfl rfl (by decide +kernel) (fun v w h => h) (fun w => rfl)) ?_
      refine gSt (gStep_off 5 25 true rfl rfl (by decide +kernel) (fun v w h => h) (fun w => rfl)) ?_
      refine gSt (gStep_off 5 25 true rfl rfl (by decide +kernel) (fun v w h => h) (fun w => rfl)) ?_
      refine gSt (gStep_off 5 25 true rfl rfl (by decide +kernel) (fun v w h => h) (fun w => rfl)) ?_
      refine gSt (gStep_off 5 25 true rfl rfl (by decide +kernel) (fun v w h => h) (fun w => rfl)) ?_
      refine gSt (gStep_off 5 25 true rfl rfl (by decide +kernel) (fun v w h => h) (fun w => rfl)) ?_
      refine gSt (gStep_run rfl (gRun_pickF 25 32 _ _ rfl rfl (by decide +kernel) (fun v w h => h) (fun w => rfl))) ?_
      exact gSt0
    · intro W hC
      refine gFi 20 rfl ?_
      rintro _ rfl
      refine gFi 21 rfl ?_
      rintro _ rfl
      refine gFi 22 rfl ?_
      rintro _ rfl
      refine gFi 23 rfl ?_
      rintro _ rfl
      refine gFi 24 rfl ?_
      rintro _ rfl
      refine gFi 25 rfl ?_
      rintro _ rfl
      refine gFi 26 rfl ?_
      rintro _ rfl
      refine gFi 27 rfl ?_
      rintro _ rfl
      refine gFi 28 rfl ?_
      rintro _ rfl
      refine gFi 29 rfl ?_
      rintro _ rfl
      refine gFi 30 rfl ?_
      rintro _ rfl
      refine gFi 31 rfl ?_
      rintro _ rfl
      refine gFi 32 rfl ?_
      rintro _ rfl
      refine gFi0 ?_
      simp only [List.drop_succ_cons, List.drop_zero, Act.put, List.setIfInBounds_toArray, List.set_cons_succ, List.set_cons_zero]
      have HC := hide hC
      clear hC h1
      go_upto_region 6 with fail
      refine wp_gen (fun W => OcSt w k ng fd r W) HC.out ?_
      clear HC
      rintro W1 h1
      refine wp_region_grow 5 [(34, .val (.pointer (some ⟨w.heap.size + 1, 1, none⟩))), (35, .val (.int .i64 (fd : Nat))), (36, .val (.agg #[.int .i64 (k 0), .int .i64 (k 1), .int .i64 (k 2), .int .i64 (k 3), .int .i64 (k 4)])), (37, .val (.int .i64 ((m : Nat) : Int))), (38, .val (.bool false))]
        (fun W => OcSt w k ng fd r W) mixedOk (by kernel_rfl) (by kernel_rfl) (h1.below (Below.refl _ _).drew) (fun W W' h hb => h.below hb) ?_ ?_
      · refine gSt (gStep_run rfl ?_) ?_
        · intro ρ W hC hc hf hL
          have e3 : ρ (.tmp 3) = .pointer (some ⟨w.heap.size + 1, 0, none⟩) := hL 3 (by decide +kernel)
          simp [go_sem, hc, hf, e3]
          exact ⟨Below.refl _ _, rfl⟩
        refine gSt (gStep_run rfl ?_) ?_
        · intro ρ W hC hc hf hL
          have e34 : ρ (.tmp 34) = .pointer (some ⟨w.heap.size + 1, 1, none⟩) := hL 34 (by decide +kernel)
          have hl := hC.p1
          simp [go_sem, hc, hf, e34, hl]
          exact ⟨Below.refl _ _, rfl⟩
        refine gSt (gStep_run rfl ?_) ?_
        · intro ρ W hC hc hf hL
          have e2 : ρ (.tmp 2) = .pointer (some ⟨w.heap.size, 0, none⟩) := hL 2 (by decide +kernel)
          have g0 := hC.rk 0 (by decide)
          have g1 := hC.rk 1 (by decide)
          have g2 := hC.rk 2 (by decide)
          have g3 := hC.rk 3 (by decide)
          have g4 := hC.rk 4 (by decide)
          simp [go_sem, hc, hf, e2, g0, g1, g2, g3, g4]
          exact ⟨Below.refl _ _, rfl⟩
        refine gSt (gStep_run rfl ?_) ?_
        · intro ρ W hC hc hf hL
          have e36 : ρ (.tmp 36) = .agg #[.int .i64 (k 0), .int .i64 (k 1), .int .i64 (k 2), .int .i64 (k 3), .int .i64 (k 4)] := hL 36 (by decide +kernel)
          simp [go_sem, hc, hf, e36]
          refine (HON.out W).mono ?_
          rintro e w' ⟨rfl, hb⟩
          exact ⟨_, rfl, by first | exact hb | (subst hb; exact Below.refl _ _), rfl⟩
        refine gSt (gStep_run rfl ?_) ?_
        · intro ρ W hC hc hf hL
          have e35 : ρ (.tmp 35) = .int .i64 (fd : Nat) := hL 35 (by decide +kernel)
          have e37 : ρ (.tmp 37) = .int .i64 ((m : Nat) : Int) := hL 37 (by decide +kernel)
          have hl := HEQ.out
          simp [go_sem, hc, hf, e35, e37, hl]
          exact ⟨Below.refl _ _, rfl⟩
        exact gSt0
      · intro W hC
        refine gFi 34 rfl ?_
        rintro _ rfl
        refine gFi 35 rfl ?_
        rintro _ rfl
        refine gFi 36 rfl ?_
        rintro _ rfl
        refine gFi 37 rfl ?_
        rintro _ rfl
        refine gFi 38 rfl ?_
        rintro _ rfl
        refine gFi0 ?_
        simp only [List.drop_succ_cons, List.drop_zero, Act.put, List.setIfInBounds_toArray, List.set_cons_succ, List.set_cons_zero]
        have HB := hide hC.bel
        have hl := hC.p1
        have hf := HF.out
        clear hC h1
        go_wp2
        go_ret
        exact ⟨rfl, HB.out⟩

set_option maxHeartbeats 2000000 in
theorem of1_norm0 (k : Nat → Int) (ng : Bool) (fd r m : Nat) (hr : r < QQ) (h0 : r = 0) (HF : Hid (((fd : Int) != 0) = true)) (HEQ : Hid (((fd : Int) == (m : Int)) = false))
    (HON : Hid (∀ w, Calls Tryd.prog 110 #[.agg #[.int .i64 (k 0), .int .i64 (k 1), .int .i64 (k 2), .int .i64 (k 3), .int .i64 (k 4)]] w fun e w' => e = .returned (.int .i64 ((m : Nat) : Int)) ∧ Below w.heap.size w w')) (w : World) :
    Calls Tryd.prog 132 #[.agg #[.int .i64 (k 0), .int .i64 (k 1), .int .i64 (k 2), .int .i64 (k 3), .int .i64 (k 4)], .agg #[.bool ng, .int .i64 ((fd : Nat)), .int .u64 (dgl r 0 : Nat), .int .u64 (dgl r 1 : Nat), .int .u64 (dgl r 2 : Nat), .int .u64 (dgl r 3 : Nat), .int .u64 (dgl r 4 : Nat), .int .u64 (dgl r 5 : Nat), .int .u64 (dgl r 6 : Nat), .int .u64 (dgl r 7 : Nat)]] w fun e w' => e = .returned (.int .i64 4) ∧ Below w.heap.size w w' := by
  have HST := hide (ocSt_start w k ng fd r)
  have hz := fun w => wide_eqz hr w
  rw [decide_eq_true h0] at hz
  clear hr h0
  go_enter Tryd.func132, Tryd.ntmps132
  go_upto_region 2 with fail
  refine wp_gen (fun W => OcSt w k ng fd r W) HST.out ?_
  clear HST hz
  rintro W1 h1
  refine wp_region_grow 8 [(11, .val (.pointer (some ⟨w.heap.size + 1, 1, none⟩))), (12, .val (.int .i64 (fd : Nat))), (13, .val (.agg #[.int .i64 (k 0), .int .i64 (k 1), .int .i64 (k 2), .int .i64 (k 3), .int .i64 (k 4)])), (14, .val (.int .i64 ((m : Nat) : Int))), (15, .val (.bool false)), (16, .val (.bool false)), (17, .val (undef)), (18, .val (.bool false))]
    (fun W => OcSt w k ng fd r W) mixedOk (by kernel_rfl) (by kernel_rfl) (h1.below (Below.refl _ _).drew) (fun W W' h hb => h.below hb) ?_ ?_
  · refine gSt (gStep_run rfl ?_) ?_
    · intro ρ W hC hc hf hL
      have e3 : ρ (.tmp 3) = .pointer (some ⟨w.heap.size + 1, 0, none⟩) := hL 3 (by decide +kernel)
      simp [go_sem, hc, hf, e3]
      exact ⟨Below.refl _ _, rfl⟩
    refine gSt (gStep_run rfl ?_) ?_
    · intro ρ W hC hc hf hL
      have e11 : ρ (.tmp 11) = .pointer (some ⟨w.heap.size + 1, 1, none⟩) := hL 11 (by decide +kernel)
      have hl := hC.p1
      simp [go_sem, hc, hf, e11, hl]
      exact ⟨Below.refl _ _, rfl⟩
    refine gSt (gStep_run rfl ?_) ?_
    · intro ρ W hC hc hf hL
      have e2 : ρ (.tmp 2) = .pointer (some ⟨w.heap.size, 0, none⟩) := hL 2 (by decide +kernel)
      have g0 := hC.rk 0 (by decide)
      have g1 := hC.rk 1 (by decide)
      have g2 := hC.rk 2 (by decide)
      have g3 := hC.rk 3 (by decide)
      have g4 := hC.rk 4 (by decide)
      simp [go_sem, hc, hf, e2, g0, g1, g2, g3, g4]
      exact ⟨Below.refl _ _, rfl⟩
    refine gSt (gStep_run rfl ?_) ?_
    · intro ρ W hC hc hf hL
      have e13 : ρ (.tmp 13) = .agg #[.int .i64 (k 0), .int .i64 (k 1), .int .i64 (k 2), .int .i64 (k 3), .int .i64 (k 4)] := hL 13 (by decide +kernel)
      simp [go_sem, hc, hf, e13]
      refine (HON.out W).mono ?_
      rintro e w' ⟨rfl, hb⟩
      exact ⟨_, rfl, by first | exact hb | (subst hb; exact Below.refl _ _), rfl⟩
    refine gSt (gStep_run rfl ?_) ?_
    · intro ρ W hC hc hf hL
      have e12 : ρ (.tmp 12) = .int .i64 (fd : Nat) := hL 12 (by decide +kernel)
      have e14 : ρ (.tmp 14) = .int .i64 ((m : Nat) : Int) := hL 14 (by decide +kernel)
      have hl := HEQ.out
      simp [go_sem, hc, hf, e12, e14, hl]
      exact ⟨Below.refl _ _, rfl⟩
    refine gSt (gStep_run rfl (gRun_move 15 16 (.inl rfl) rfl (by decide +kernel) (fun v w h => h))) ?_
    refine gSt (gStep_off 5 16 true rfl rfl (by decide +kernel) (fun v w h => h) (fun w => rfl)) ?_
    refine gSt (gStep_run rfl (gRun_pickF 16 18 _ _ rfl rfl (by decide +kernel) (fun v w h => h) (fun w => rfl))) ?_
    exact gSt0
  · intro W hC
    refine gFi 11 rfl ?_
    rintro _ rfl
    refine gFi 12 rfl ?_
    rintro _ rfl
    refine gFi 13 rfl ?_
    rintro _ rfl
    refine gFi 14 rfl ?_
    rintro _ rfl
    refine gFi 15 rfl ?_
    rintro _ rfl
    refine gFi 16 rfl ?_
    rintro _ rfl
    refine gFi 17 rfl ?_
    rintro _ rfl
    refine gFi 18 rfl ?_
    rintro _ rfl
    refine gFi0 ?_
    simp only [List.drop_succ_cons, List.drop_zero, Act.put, List.setIfInBounds_toArray, List.set_cons_succ, List.set_cons_zero]
    have HC := hide hC
    clear hC h1
    go_upto_region 4 with fail
    refine wp_gen (fun W => OcSt w k ng fd r W) HC.out ?_
    clear HC
    rintro W1 h1
    refine wp_region_grow 13 [(20, .val (.pointer (some ⟨w.heap.size + 1, 1, none⟩))), (21, .val (.int .i64 (fd : Nat))), (22, .val (.agg #[.int .i64 (k 0), .int .i64 (k 1), .int .i64 (k 2), .int .i64 (k 3), .int .i64 (k 4)])), (23, .val (.int .i64 ((m : Nat) : Int))), (24, .val (.bool false)), (25, .val (.bool false)), (26, .val (undef)), (27, .val (undef)), (28, .val (undef)), (29, .val (undef)), (30, .val (undef)), (31, .val (undef)), (32, .val (.bool false))]
      (fun W => OcSt w k ng fd r W) mixedOk (by kernel_rfl) (by kernel_rfl) (h1.below (Below.refl _ _).drew) (fun W W' h hb => h.below hb) ?_ ?_
    · refine gSt (gStep_run rfl ?_) ?_
      · intro ρ W hC hc hf hL
        have e3 : ρ (.tmp 3) = .pointer (some ⟨w.heap.size + 1, 0, none⟩) := hL 3 (by decide +kernel)
        simp [go_sem, hc, hf, e3]
        exact ⟨Below.refl _ _, rfl⟩
      refine gSt (gStep_run rfl ?_) ?_
      · intro ρ W hC hc hf hL
        have e20 : ρ (.tmp 20) = .pointer (some ⟨w.heap.size + 1, 1, none⟩) := hL 20 (by decide +kernel)
        have hl := hC.p1
        simp [go_sem, hc, hf, e20, hl]
        exact ⟨Below.refl _ _, rfl⟩
      refine gSt (gStep_run rfl ?_) ?_
      · intro ρ W hC hc hf hL
        have e2 : ρ (.tmp 2) = .pointer (some ⟨w.heap.size, 0, none⟩) := hL 2 (by decide +kernel)
        have g0 := hC.rk 0 (by decide)
        have g1 := hC.rk 1 (by decide)
        have g2 := hC.rk 2 (by decide)
        have g3 := hC.rk 3 (by decide)
        have g4 := hC.rk 4 (by decide)
        simp [go_sem, hc, hf, e2, g0, g1, g2, g3, g4]
        exact ⟨Below.refl _ _, rfl⟩
      refine gSt (gStep_run rfl ?_) ?_
      · intro ρ W hC hc hf hL
        have e22 : ρ (.tmp 22) = .agg #[.int .i64 (k 0), .int .i64 (k 1), .int .i64 (k 2), .int .i64 (k 3), .int .i64 (k 4)] := hL 22 (by decide +kernel)
        simp [go_sem, hc, hf, e22]
        refine (HON.out W).mono ?_
        rintro e w' ⟨rfl, hb⟩
        exact ⟨_, rfl, by first | exact hb | (subst hb; exact Below.refl _ _), rfl⟩
      refine gSt (gStep_run rfl ?_) ?_
      · intro ρ W hC hc hf hL
        have e21 : ρ (.tmp 21) = .int .i64 (fd : Nat) := hL 21 (by decide +kernel)
        have e23 : ρ (.tmp 23) = .int .i64 ((m : Nat) : Int) := hL 23 (by decide +kernel)
        have hl := HEQ.out
        simp [go_sem, hc, hf, e21, e23, hl]
        exact ⟨Below.refl _ _, rfl⟩
      refine gSt (gStep_run rfl (gRun_move 24 25 (.inl rfl) rfl (by decide +kernel) (fun v w h => h))) ?_
      refine gSt (gStep_off 5 25 true rfl rfl (by decide +kernel) (fun v w h => h) (fun w => rfl)) ?_
      refine gSt (gStep_off 5 25 true rfl rfl (by decide +kernel) (fun v w h => h) (fun w => rfl)) ?_
      refine gSt (gStep_off 5 25 true rfl rfl (by decide +kernel) (fun v w h => h) (fun w => rfl)) ?_
      refine gSt (gStep_off 5 25 true rfl rfl (by decide +kernel) (fun v w h => h) (fun w => rfl)) ?_
      refine gSt (gStep_off 5 25 true rfl rfl (by decide +kernel) (fun v w h => h) (fun w => rfl)) ?_
      refine gSt (gStep_off 5 25 true rfl rfl (by decide +kernel) (fun v w h => h) (fun w => rfl)) ?_
      refine gSt (gStep_run rfl (gRun_pickF 25 32 _ _ rfl rfl (by decide +kernel) (fun v w h => h) (fun w => rfl))) ?_
      exact gSt0
    · intro W hC
      refine gFi 20 rfl ?_
      rintro _ rfl
      refine gFi 21 rfl ?_
      rintro _ rfl
      refine gFi 22 rfl ?_
      rintro _ rfl
      refine gFi 23 rfl ?_
      rintro _ rfl
      refine gFi 24 rfl ?_
      rintro _ rfl
      refine gFi 25 rfl ?_
      rintro _ rfl
      refine gFi 26 rfl ?_
      rintro _ rfl
      refine gFi 27 rfl ?_
      rintro _ rfl
      refine gFi 28 rfl ?_
      rintro _ rfl
      refine gFi 29 rfl ?_
      rintro _ rfl
      refine gFi 30 rfl ?_
      rintro _ rfl
      refine gFi 31 rfl ?_
      rintro _ rfl
      refine gFi 32 rfl ?_
      rintro _ rfl
      refine gFi0 ?_
      simp only [List.drop_succ_cons, List.drop_zero, Act.put, List.setIfInBounds_toArray, List.set_cons_succ, List.set_cons_zero]
      have HC := hide hC
      clear hC h1
      go_upto_region 6 with fail
      refine wp_gen (fun W => OcSt w k ng fd r W) HC.out ?_
      clear HC
      rintro W1 h1
      refine wp_region_grow 5 [(34, .val (.pointer (some ⟨w.heap.size + 1, 1, none⟩))), (35, .val (.int .i64 (fd : Nat))), (36, .val (.agg #[.int .i64 (k 0), .int .i64 (k 1), .int .i64 (k 2), .int .i64 (k 3), .int .i64 (k 4)])), (37, .val (.int .i64 ((m : Nat) : Int))), (38, .val (.bool false))]
        (fun W => OcSt w k ng fd r W) mixedOk (by kernel_rfl) (by kernel_rfl) (h1.below (Below.refl _ _).drew) (fun W W' h hb => h.below hb) ?_ ?_
      · refine gSt (gStep_run rfl ?_) ?_
        · intro ρ W hC hc hf hL
          have e3 : ρ (.tmp 3) = .pointer (some ⟨w.heap.size + 1, 0, none⟩) := hL 3 (by decide +kernel)
          simp [go_sem, hc, hf, e3]
          exact ⟨Below.refl _ _, rfl⟩
        refine gSt (gStep_run rfl ?_) ?_
        · intro ρ W hC hc hf hL
          have e34 : ρ (.tmp 34) = .pointer (some ⟨w.heap.size + 1, 1, none⟩) := hL 34 (by decide +kernel)
          have hl := hC.p1
          simp [go_sem, hc, hf, e34, hl]
          exact ⟨Below.refl _ _, rfl⟩
        refine gSt (gStep_run rfl ?_) ?_
        · intro ρ W hC hc hf hL
          have e2 : ρ (.tmp 2) = .pointer (some ⟨w.heap.size, 0, none⟩) := hL 2 (by decide +kernel)
          have g0 := hC.rk 0 (by decide)
          have g1 := hC.rk 1 (by decide)
          have g2 := hC.rk 2 (by decide)
          have g3 := hC.rk 3 (by decide)
          have g4 := hC.rk 4 (by decide)
          simp [go_sem, hc, hf, e2, g0, g1, g2, g3, g4]
          exact ⟨Below.refl _ _, rfl⟩
        refine gSt (gStep_run rfl ?_) ?_
        · intro ρ W hC hc hf hL
          have e36 : ρ (.tmp 36) = .agg #[.int .i64 (k 0), .int .i64 (k 1), .int .i64 (k 2), .int .i64 (k 3), .int .i64 (k 4)] := hL 36 (by decide +kernel)
          simp [go_sem, hc, hf, e36]
          refine (HON.out W).mono ?_
          rintro e w' ⟨rfl, hb⟩
          exact ⟨_, rfl, by first | exact hb | (subst hb; exact Below.refl _ _), rfl⟩
        refine gSt (gStep_run rfl ?_) ?_
        · intro ρ W hC hc hf hL
          have e35 : ρ (.tmp 35) = .int .i64 (fd : Nat) := hL 35 (by decide +kernel)
          have e37 : ρ (.tmp 37) = .int .i64 ((m : Nat) : Int) := hL 37 (by decide +kernel)
          have hl := HEQ.out
          simp [go_sem, hc, hf, e35, e37, hl]
          exact ⟨Below.refl _ _, rfl⟩
        exact gSt0
      · intro W hC
        refine gFi 34 rfl ?_
        rintro _ rfl
        refine gFi 35 rfl ?_
        rintro _ rfl
        refine gFi 36 rfl ?_
        rintro _ rfl
        refine gFi 37 rfl ?_
        rintro _ rfl
        refine gFi 38 rfl ?_
        rintro _ rfl
        refine gFi0 ?_
        simp only [List.drop_succ_cons, List.drop_zero, Act.put, List.setIfInBounds_toArray, List.set_cons_succ, List.set_cons_zero]
        have HB := hide hC.bel
        have hl := hC.p1
        have hf := HF.out
        clear hC h1
        go_wp2
        go_ret
        exact ⟨rfl, HB.out⟩

set_option maxHeartbeats 2000000 in
theorem of1_sub (k : Nat → Int) (ng : Bool) (fd r m : Nat) (hr : r < QQ) (h0 : ¬ r = 0) (HF : Hid (((fd : Int) != 0) = false)) (HEQ : Hid (((fd : Int) == (m : Int)) = false))
    (HON : Hid (∀ w, Calls Tryd.prog 110 #[.agg #[.int .i64 (k 0), .int .i64 (k 1), .int .i64 (k 2), .int .i64 (k 3), .int .i64 (k 4)]] w fun e w' => e = .returned (.int .i64 ((m : Nat) : Int)) ∧ Below w.heap.size w w')) (w : World) :
    Calls Tryd.prog 132 #[.agg #[.int .i64 (k 0), .int .i64 (k 1), .int .i64 (k 2), .int .i64 (k 3), .int .i64 (k 4)], .agg #[.bool ng, .int .i64 ((fd : Nat)), .int .u64 (dgl r 0 : Nat), .int .u64 (dgl r 1 : Nat), .int .u64 (dgl r 2 : Nat), .int .u64 (dgl r 3 : Nat), .int .u64 (dgl r 4 : Nat), .int .u64 (dgl r 5 : Nat), .int .u64 (dgl r 6 : Nat), .int .u64 (dgl r 7 : Nat)]] w fun e w' => e = .returned (.int .i64 5) ∧ Below w.heap.size w w' := by
  have HST := hide (ocSt_start w k ng fd r)
  have hz := fun w => wide_eqz hr w
  rw [decide_eq_false h0] at hz
  clear hr h0
  go_enter Tryd.func132, Tryd.ntmps132
  go_upto_region 2 with fail
  refine wp_gen (fun W => OcSt w k ng fd r W) HST.out ?_
  clear HST hz
  rintro W1 h1
  refine wp_region_grow 8 [(11, .val (.pointer (some ⟨w.heap.size + 1, 1, none⟩))), (12, .val (.int .i64 (fd : Nat))), (13, .val (.agg #[.int .i64 (k 0), .int .i64 (k 1), .int .i64 (k 2), .int .i64 (k 3), .int .i64 (k 4)])), (14, .val (.int .i64 ((m : Nat) : Int))), (15, .val (.bool false)), (16, .val (.bool false)), (17, .val (undef)), (18, .val (.bool false))]
    (fun W => OcSt w k ng fd r W) mixedOk (by kernel_rfl) (by kernel_rfl) (h1.below (Below.refl _ _).drew) (fun W W' h hb => h.below hb) ?_ ?_
  · refine gSt (gStep_run rfl ?_) ?_
    · intro ρ W hC hc hf hL
      have e3 : ρ (.tmp 3) = .pointer (some ⟨w.heap.size + 1, 0, none⟩) := hL 3 (by decide +kernel)
      simp [go_sem, hc, hf, e3]
      exact ⟨Below.refl _ _, rfl⟩
    refine gSt (gStep_run rfl ?_) ?_
    · intro ρ W hC hc hf hL
      have e11 : ρ (.tmp 11) = .pointer (some ⟨w.heap.size + 1, 1, none⟩) := hL 11 (by decide +kernel)
      have hl := hC.p1
      simp [go_sem, hc, hf, e11, hl]
      exact ⟨Below.refl _ _, rfl⟩
    refine gSt (gStep_run rfl ?_) ?_
    · intro ρ W hC hc hf hL
      have e2 : ρ (.tmp 2) = .pointer (some ⟨w.heap.size, 0, none⟩) := hL 2 (by decide +kernel)
      have g0 := hC.rk 0 (by decide)
      have g1 := hC.rk 1 (by decide)
      have g2 := hC.rk 2 (by decide)
      have g3 := hC.rk 3 (by decide)
      have g4 := hC.rk 4 (by decide)
      simp [go_sem, hc, hf, e2, g0, g1, g2, g3, g4]
      exact ⟨Below.refl _ _, rfl⟩
    refine gSt (gStep_run rfl ?_) ?_
    · intro ρ W hC hc hf hL
      have e13 : ρ (.tmp 13) = .agg #[.int .i64 (k 0), .int .i64 (k 1), .int .i64 (k 2), .int .i64 (k 3), .int .i64 (k 4)] := hL 13 (by decide +kernel)
      simp [go_sem, hc, hf, e13]
      refine (HON.out W).mono ?_
      rintro e w' ⟨rfl, hb⟩
      exact ⟨_, rfl, by first | exact hb | (subst hb; exact Below.refl _ _), rfl⟩
    refine gSt (gStep_run rfl ?_) ?_
    · intro ρ W hC hc hf hL
      have e12 : ρ (.tmp 12) = .int .i64 (fd : Nat) := hL 12 (by decide +kernel)
      have e14 : ρ (.tmp 14) = .int .i64 ((m : Nat) : Int) := hL 14 (by decide +kernel)
      have hl := HEQ.out
      simp [go_sem, hc, hf, e12, e14, hl]
      exact ⟨Below.refl _ _, rfl⟩
    refine gSt (gStep_run rfl (gRun_move 15 16 (.inl rfl) rfl (by decide +kernel) (fun v w h => h))) ?_
    refine gSt (gStep_off 5 16 true rfl rfl (by decide +kernel) (fun v w h => h) (fun w => rfl)) ?_
    refine gSt (gStep_run rfl (gRun_pickF 16 18 _ _ rfl rfl (by decide +kernel) (fun v w h => h) (fun w => rfl))) ?_
    exact gSt0
  · intro W hC
    refine gFi 11 rfl ?_
    rintro _ rfl
    refine gFi 12 rfl ?_
    rintro _ rfl
    refine gFi 13 rfl ?_
    rintro _ rfl
    refine gFi 14 rfl ?_
    rintro _ rfl
    refine gFi 15 rfl ?_
    rintro _ rfl
    refine gFi 16 rfl ?_
    rintro _ rfl
    refine gFi 17 rfl ?_
    rintro _ rfl
    refine gFi 18 rfl ?_
    rintro _ rfl
    refine gFi0 ?_
    simp only [List.drop_succ_cons, List.drop_zero, Act.put, List.setIfInBounds_toArray, List.set_cons_succ, List.set_cons_zero]
    have HC := hide hC
    clear hC h1
    go_upto_region 4 with fail
    refine wp_gen (fun W => OcSt w k ng fd r W) HC.out ?_
    clear HC
    rintro W1 h1
    refine wp_region_grow 13 [(20, .val (.pointer (some ⟨w.heap.size + 1, 1, none⟩))), (21, .val (.int .i64 (fd : Nat))), (22, .val (.agg #[.int .i64 (k 0), .int .i64 (k 1), .int .i64 (k 2), .int .i64 (k 3), .int .i64 (k 4)])), (23, .val (.int .i64 ((m : Nat) : Int))), (24, .val (.bool false)), (25, .val (.bool false)), (26, .val (undef)), (27, .val (undef)), (28, .val (undef)), (29, .val (undef)), (30, .val (undef)), (31, .val (undef)), (32, .val (.bool false))]
      (fun W => OcSt w k ng fd r W) mixedOk (by kernel_rfl) (by kernel_rfl) (h1.below (Below.refl _ _).drew) (fun W W' h hb => h.below hb) ?_ ?_
    · refine gSt (gStep_run rfl ?_) ?_
      · intro ρ W hC hc hf hL
        have e3 : ρ (.tmp 3) = .pointer (some ⟨w.heap.size + 1, 0, none⟩) := hL 3 (by decide +kernel)
        simp [go_sem, hc, hf, e3]
        exact ⟨Below.refl _ _, rfl⟩
      refine gSt (gStep_run rfl ?_) ?_
      · intro ρ W hC hc hf hL
        have e20 : ρ (.tmp 20) = .pointer (some ⟨w.heap.size + 1, 1, none⟩) := hL 20 (by decide +kernel)
        have hl := hC.p1
        simp [go_sem, hc, hf, e20, hl]
        exact ⟨Below.refl _ _, rfl⟩
      refine gSt (gStep_run rfl ?_) ?_
      · intro ρ W hC hc hf hL
        have e2 : ρ (.tmp 2) = .pointer (some ⟨w.heap.size, 0, none⟩) := hL 2 (by decide +kernel)
        have g0 := hC.rk 0 (by decide)
        have g1 := hC.rk 1 (by decide)
        have g2 := hC.rk 2 (by decide)
        have g3 := hC.rk 3 (by decide)
        have g4 := hC.rk 4 (by decide)
        simp [go_sem, hc, hf, e2, g0, g1, g2, g3, g4]
        exact ⟨Below.refl _ _, rfl⟩
      refine gSt (gStep_run rfl ?_) ?_
      · intro ρ W hC hc hf hL
        have e22 : ρ (.tmp 22) = .agg #[.int .i64 (k 0), .int .i64 (k 1), .int .i64 (k 2), .int .i64 (k 3), .int .i64 (k 4)] := hL 22 (by decide +kernel)
        simp [go_sem, hc, hf, e22]
        refine (HON.out W).mono ?_
        rintro e w' ⟨rfl, hb⟩
        exact ⟨_, rfl, by first | exact hb | (subst hb; exact Below.refl _ _), rfl⟩
      refine gSt (gStep_run rfl ?_) ?_
      · intro ρ W hC hc hf hL
        have e21 : ρ (.tmp 21) = .int .i64 (fd : Nat) := hL 21 (by decide +kernel)
        have e23 : ρ (.tmp 23) = .int .i64 ((m : Nat) : Int) := hL 23 (by decide +kernel)
        have hl := HEQ.out
        simp [go_sem, hc, hf, e21, e23, hl]
        exact ⟨Below.refl _ _, rfl⟩
      refine gSt (gStep_run rfl (gRun_move 24 25 (.inl rfl) rfl (by decide +kernel) (fun v w h => h))) ?_
      refine gSt (gStep_off 5 25 true rfl rfl (by decide +kernel) (fun v w h => h) (fun w => rfl)) ?_
      refine gSt (gStep_off 5 25 true rfl rfl (by decide +kernel) (fun v w h => h) (fun w => rfl)) ?_
      refine gSt (gStep_off 5 25 true rfl rfl (by decide +kernel) (fun v w h => h) (fun w => rfl)) ?_
      refine gSt (gStep_off 5 25 true rfl rfl (by decide +kernel) (fun v w h => h) (fun w => rfl)) ?_
      refine gSt (gStep_off 5 25 true rfl rfl (by decide +kernel) (fun v w h => h) (fun w => rfl)) ?_
      refine gSt (gStep_off 5 25 true rfl rfl (by decide +kernel) (fun v w h => h) (fun w => rfl)) ?_
      refine gSt (gStep_run rfl (gRun_pickF 25 32 _ _ rfl rfl (by decide +kernel) (fun v w h => h) (fun w => rfl))) ?_
      exact gSt0
    · intro W hC
      refine gFi 20 rfl ?_
      rintro _ rfl
      refine gFi 21 rfl ?_
      rintro _ rfl
      refine gFi 22 rfl ?_
      rintro _ rfl
      refine gFi 23 rfl ?_
      rintro _ rfl
      refine gFi 24 rfl ?_
      rintro _ rfl
      refine gFi 25 rfl ?_
      rintro _ rfl
      refine gFi 26 rfl ?_
      rintro _ rfl
      refine gFi 27 rfl ?_
      rintro _ rfl
      refine gFi 28 rfl ?_
      rintro _ rfl
      refine gFi 29 rfl ?_
      rintro _ rfl
      refine gFi 30 rfl ?_
      rintro _ rfl
      refine gFi 31 rfl ?_
      rintro _ rfl
      refine gFi 32 rfl ?_
      rintro _ rfl
      refine gFi0 ?_
      simp only [List.drop_succ_cons, List.drop_zero, Act.put, List.setIfInBounds_toArray, List.set_cons_succ, List.set_cons_zero]
      have HC := hide hC
      clear hC h1
      go_upto_region 6 with fail
      refine wp_gen (fun W => OcSt w k ng fd r W) HC.out ?_
      clear HC
      rintro W1 h1
      refine wp_region_grow 5 [(34, .val (.pointer (some ⟨w.heap.size + 1, 1, none⟩))), (35, .val (.int .i64 (fd : Nat))), (36, .val (.agg #[.int .i64 (k 0), .int .i64 (k 1), .int .i64 (k 2), .int .i64 (k 3), .int .i64 (k 4)])), (37, .val (.int .i64 ((m : Nat) : Int))), (38, .val (.bool false))]
        (fun W => OcSt w k ng fd r W) mixedOk (by kernel_rfl) (by kernel_rfl) (h1.below (Below.refl _ _).drew) (fun W W' h hb => h.below hb) ?_ ?_
      · refine gSt (gStep_run rfl ?_) ?_
        · intro ρ W hC hc hf hL
          have e3 : ρ (.tmp 3) = .pointer (some ⟨w.heap.size + 1, 0, none⟩) := hL 3 (by decide +kernel)
          simp [go_sem, hc, hf, e3]
          exact ⟨Below.refl _ _, rfl⟩
        refine gSt (gStep_run rfl ?_) ?_
        · intro ρ W hC hc hf hL
          have e34 : ρ (.tmp 34) = .pointer (some ⟨w.heap.size + 1, 1, none⟩) := hL 34 (by decide +kernel)
          have hl := hC.p1
          simp [go_sem, hc, hf, e34, hl]
          exact ⟨Below.refl _ _, rfl⟩
        refine gSt (gStep_run rfl ?_) ?_
        · intro ρ W hC hc hf hL
          have e2 : ρ (.tmp 2) = .pointer (some ⟨w.heap.size, 0, none⟩) := hL 2 (by decide +kernel)
          have g0 := hC.rk 0 (by decide)
          have g1 := hC.rk 1 (by decide)
          have g2 := hC.rk 2 (by decide)
          have g3 := hC.rk 3 (by decide)
          have g4 := hC.rk 4 (by decide)
          simp [go_sem, hc, hf, e2, g0, g1, g2, g3, g4]
          exact ⟨Below.refl _ _, rfl⟩
        refine gSt (gStep_run rfl ?_) ?_
        · intro ρ W hC hc hf hL
          have e36 : ρ (.tmp 36) = .agg #[.int .i64 (k 0), .int .i64 (k 1), .int .i64 (k 2), .int .i64 (k 3), .int .i64 (k 4)] := hL 36 (by decide +kernel)
          simp [go_sem, hc, hf, e36]
          refine (HON.out W).mono ?_
          rintro e w' ⟨rfl, hb⟩
          exact ⟨_, rfl, by first | exact hb | (subst hb; exact Below.refl _ _), rfl⟩
        refine gSt (gStep_run rfl ?_) ?_
        · intro ρ W hC hc hf hL
          have e35 : ρ (.tmp 35) = .int .i64 (fd : Nat) := hL 35 (by decide +kernel)
          have e37 : ρ (.tmp 37) = .int .i64 ((m : Nat) : Int) := hL 37 (by decide +kernel)
          have hl := HEQ.out
          simp [go_sem, hc, hf, e35, e37, hl]
          exact ⟨Below.refl _ _, rfl⟩
        exact gSt0
      · intro W hC
        refine gFi 34 rfl ?_
        rintro _ rfl
        refine gFi 35 rfl ?_
        rintro _ rfl
        refine gFi 36 rfl ?_
        rintro _ rfl
        refine gFi 37 rfl ?_
        rintro _ rfl
        refine gFi 38 rfl ?_
        rintro _ rfl
        refine gFi0 ?_
        simp only [List.drop_succ_cons, List.drop_zero, Act.put, List.setIfInBounds_toArray, List.set_cons_succ, List.set_cons_zero]
        have HB := hide hC.bel
        have hl := hC.p1
        have hf := HF.out
        clear hC h1
        go_wp2
        go_ret
        exact ⟨rfl, HB.out⟩

set_option maxHeartbeats 2000000 in
theorem of1_zero (k : Nat → Int) (ng : Bool) (fd r m : Nat) (hr : r < QQ) (h0 : r = 0) (HF : Hid (((fd : Int) != 0) = false)) (HEQ : Hid (((fd : Int) == (m : Int)) = false))
    (HON : Hid (∀ w, Calls Tryd.prog 110 #[.agg #[.int .i64 (k 0), .int .i64 (k 1), .int .i64 (k 2), .int .i64 (k 3), .int .i64 (k 4)]] w fun e w' => e = .returned (.int .i64 ((m : Nat) : Int)) ∧ Below w.heap.size w w')) (w : World) :
    Calls Tryd.prog 132 #[.agg #[.int .i64 (k 0), .int .i64 (k 1), .int .i64 (k 2), .int .i64 (k 3), .int .i64 (k 4)], .agg #[.bool ng, .int .i64 ((fd : Nat)), .int .u64 (dgl r 0 : Nat), .int .u64 (dgl r 1 : Nat), .int .u64 (dgl r 2 : Nat), .int .u64 (dgl r 3 : Nat), .int .u64 (dgl r 4 : Nat), .int .u64 (dgl r 5 : Nat), .int .u64 (dgl r 6 : Nat), .int .u64 (dgl r 7 : Nat)]] w fun e w' => e = .returned (.int .i64 6) ∧ Below w.heap.size w w' := by
  have HST := hide (ocSt_start w k ng fd r)
  have hz := fun w => wide_eqz hr w
  rw [decide_eq_true h0] at hz
  clear hr h0
  go_enter Tryd.func132, Tryd.ntmps132
  go_upto_region 2 with fail
  refine wp_gen (fun W => OcSt w k ng fd r W) HST.out ?_
  clear HST hz
  rintro W1 h1
  refine wp_region_grow 8 [(11, .val (.pointer (some ⟨w.heap.size + 1, 1, none⟩))), (12, .val (.int .i64 (fd : Nat))), (13, .val (.agg #[.int .i64 (k 0), .int .i64 (k 1), .int .i64 (k 2), .int .i64 (k 3), .int .i64 (k 4)])), (14, .val (.int .i64 ((m : Nat) : Int))), (15, .val (.bool false)), (16, .val (.bool false)), (17, .val (undef)), (18, .val (.bool false))]
    (fun W => OcSt w k ng fd r W) mixedOk (by kernel_rfl) (by kernel_rfl) (h1.below (Below.refl _ _).drew) (fun W W' h hb => h.below hb) ?_ ?_
  · refine gSt (gStep_run rfl ?_) ?_
    · intro ρ W hC hc hf hL
      have e3 : ρ (.tmp 3) = .pointer (some ⟨w.heap.size + 1, 0, none⟩) := hL 3 (by decide +kernel)
      simp [go_sem, hc, hf, e3]
      exact ⟨Below.refl _ _, rfl⟩
    refine gSt (gStep_run rfl ?_) ?_
    · intro ρ W hC hc hf hL
      have e11 : ρ (.tmp 11) = .pointer (some ⟨w.heap.size + 1, 1, none⟩) := hL 11 (by decide +kernel)
      have hl := hC.p1
      simp [go_sem, hc, hf, e11, hl]
      exact ⟨Below.refl _ _, rfl⟩
    refine gSt (gStep_run rfl ?_) ?_
    · intro ρ W hC hc hf hL
      have e2 : ρ (.tmp 2) = .pointer (some ⟨w.heap.size, 0, none⟩) := hL 2 (by decide +kernel)
      have g0 := hC.rk 0 (by decide)
      have g1 := hC.rk 1 (by decide)
      have g2 := hC.rk 2 (by decide)
      have g3 := hC.rk 3 (by decide)
      have g4 := hC.rk 4 (by decide)
      simp [go_sem, hc, hf, e2, g0, g1, g2, g3, g4]
      exact ⟨Below.refl _ _, rfl⟩
    refine gSt (gStep_run rfl ?_) ?_
    · intro ρ W hC hc hf hL
      have e13 : ρ (.tmp 13) = .agg #[.int .i64 (k 0), .int .i64 (k 1), .int .i64 (k 2), .int .i64 (k 3), .int .i64 (k 4)] := hL 13 (by decide +kernel)
      simp [go_sem, hc, hf, e13]
      refine (HON.out W).mono ?_
      rintro e w' ⟨rfl, hb⟩
      exact ⟨_, rfl, by first | exact hb | (subst hb; exact Below.refl _ _), rfl⟩
    refine gSt (gStep_run rfl ?_) ?_
    · intro ρ W hC hc hf hL
      have e12 : ρ (.tmp 12) = .int .i64 (fd : Nat) := hL 12 (by decide +kernel)
      have e14 : ρ (.tmp 14) = .int .i64 ((m : Nat) : Int) := hL 14 (by decide +kernel)
      have hl := HEQ.out
      simp [go_sem, hc, hf, e12, e14, hl]
      exact ⟨Below.refl _ _, rfl⟩
    refine gSt (gStep_run rfl (gRun_move 15 16 (.inl rfl) rfl (by decide +kernel) (fun v w h => h))) ?_
    refine gSt (gStep_off 5 16 true rfl rfl (by decide +kernel) (fun v w h => h) (fun w => rfl)) ?_
    refine gSt (gStep_run rfl (gRun_pickF 16 18 _ _ rfl rfl (by decide +kernel) (fun v w h => h) (fun w => rfl))) ?_
    exact gSt0
  · intro W hC
    refine gFi 11 rfl ?_
    rintro _ rfl
    refine gFi 12 rfl ?_
    rintro _ rfl
    refine gFi 13 rfl ?_
    rintro _ rfl
    refine gFi 14 rfl ?_
    rintro _ rfl
    refine gFi 15 rfl ?_
    rintro _ rfl
    refine gFi 16 rfl ?_
    rintro _ rfl
    refine gFi 17 rfl ?_
    rintro _ rfl
    refine gFi 18 rfl ?_
    rintro _ rfl
    refine gFi0 ?_
    simp only [List.drop_succ_cons, List.drop_zero, Act.put, List.setIfInBounds_toArray, List.set_cons_succ, List.set_cons_zero]
    have HC := hide hC
    clear hC h1
    go_upto_region 4 with fail
    refine wp_gen (fun W => OcSt w k ng fd r W) HC.out ?_
    clear HC
    rintro W1 h1
    refine wp_region_grow 13 [(20, .val (.pointer (some ⟨w.heap.size + 1, 1, none⟩))), (21, .val (.int .i64 (fd : Nat))), (22, .val (.agg #[.int .i64 (k 0), .int .i64 (k 1), .int .i64 (k 2), .int .i64 (k 3), .int .i64 (k 4)])), (23, .val (.int .i64 ((m : Nat) : Int))), (24, .val (.bool false)), (25, .val (.bool false)), (26, .val (undef)), (27, .val (undef)), (28, .val (undef)), (29, .val (undef)), (30, .val (undef)), (31, .val (undef)), (32, .val (.bool false))]
      (fun W => OcSt w k ng fd r W) mixedOk (by kernel_rfl) (by kernel_rfl) (h1.below (Below.refl _ _).drew) (fun W W' h hb => h.below hb) ?_ ?_
    · refine gSt (gStep_run rfl ?_) ?_
      · intro ρ W hC hc hf hL
        have e3 : ρ (.tmp 3) = .pointer (some ⟨w.heap.size + 1, 0, none⟩) := hL 3 (by decide +kernel)
        simp [go_sem, hc, hf, e3]
        exact ⟨Below.refl _ _, rfl⟩
      refine gSt (gStep_run rfl ?_) ?_
      · intro ρ W hC hc hf hL
        have e20 : ρ (.tmp 20) = .pointer (some ⟨w.heap.size + 1, 1, none⟩) := hL 20 (by decide +kernel)
        have hl := hC.p1
        simp [go_sem, hc, hf, e20, hl]
        exact ⟨Below.refl _ _, rfl⟩
      refine gSt (gStep_run rfl ?_) ?_
      · intro ρ W hC hc hf hL
        have e2 : ρ (.tmp 2) = .pointer (some ⟨w.heap.size, 0, none⟩) := hL 2 (by decide +kernel)
        have g0 := hC.rk 0 (by decide)
        have g1 := hC.rk 1 (by decide)
        have g2 := hC.rk 2 (by decide)
        have g3 := hC.rk 3 (by decide)
        have g4 := hC.rk 4 (by decide)
        simp [go_sem, hc, hf, e2, g0, g1, g2, g3, g4]
        exact ⟨Below.refl _ _, rfl⟩
      refine gSt (gStep_run rfl ?_) ?_
      · intro ρ W hC hc hf hL
        have e22 : ρ (.tmp 22) = .agg #[.int .i64 (k 0), .int .i64 (k 1), .int .i64 (k 2), .int .i64 (k 3), .int .i64 (k 4)] := hL 22 (by decide +kernel)
        simp [go_sem, hc, hf, e22]
        refine (HON.out W).mono ?_
        rintro e w' ⟨rfl, hb⟩
        exact ⟨_, rfl, by first | exact hb | (subst hb; exact Below.refl _ _), rfl⟩
      refine gSt (gStep_run rfl ?_) ?_
      · intro ρ W hC hc hf hL
        have e21 : ρ (.tmp 21) = .int .i64 (fd : Nat) := hL 21 (by decide +kernel)
        have e23 : ρ (.tmp 23) = .int .i64 ((m : Nat) : Int) := hL 23 (by decide +kernel)
        have hl := HEQ.out
        simp [go_sem, hc, hf, e21, e23, hl]
        exact ⟨Below.refl _ _, rfl⟩
      refine gSt (gStep_run rfl (gRun_move 24 25 (.inl rfl) rfl (by decide +kernel) (fun v w h => h))) ?_
      refine gSt (gStep_off 5 25 true rfl rfl (by decide +kernel) (fun v w h => h) (fun w => rfl)) ?_
      refine gSt (gStep_off 5 25 true rfl rfl (by decide +kernel) (fun v w h => h) (fun w => rfl)) ?_
      refine gSt (gStep_off 5 25 true rfl rfl (by decide +kernel) (fun v w h => h) (fun w => rfl)) ?_
      refine gSt (gStep_off 5 25 true rfl rfl (by decide +kernel) (fun v w h => h) (fun w => rfl)) ?_
      refine gSt (gStep_off 5 25 true rfl rfl (by decide +kernel) (fun v w h => h) (fun w => rfl)) ?_
      refine gSt (gStep_off 5 25 true rfl rfl (by decide +kernel) (fun v w h => h) (fun w => rfl)) ?_
      refine gSt (gStep_run rfl (gRun_pickF 25 32 _ _ rfl rfl (by decide +kernel) (fun v w h => h) (fun w => rfl))) ?_
      exact gSt0
    · intro W hC
      refine gFi 20 rfl ?_
      rintro _ rfl
      refine gFi 21 rfl ?_
      rintro _ rfl
      refine gFi 22 rfl ?_
      rintro _ rfl
      refine gFi 23 rfl ?_
      rintro _ rfl
      refine gFi 24 rfl ?_
      rintro _ rfl
      refine gFi 25 rfl ?_
      rintro _ rfl
      refine gFi 26 rfl ?_
      rintro _ rfl
      refine gFi 27 rfl ?_
      rintro _ rfl
      refine gFi 28 rfl ?_
      rintro _ rfl
      refine gFi 29 rfl ?_
      rintro _ rfl
      refine gFi 30 rfl ?_
      rintro _ rfl
      refine gFi 31 rfl ?_
      rintro _ rfl
      refine gFi 32 rfl ?_
      rintro _ rfl
      refine gFi0 ?_
      simp only [List.drop_succ_cons, List.drop_zero, Act.put, List.setIfInBounds_toArray, List.set_cons_succ, List.set_cons_zero]
      have HC := hide hC
      clear hC h1
      go_upto_region 6 with fail
      refine wp_gen (fun W => OcSt w k ng fd r W) HC.out ?_
      clear HC
      rintro W1 h1
      refine wp_region_grow 5 [(34, .val (.pointer (some ⟨w.heap.size + 1, 1, none⟩))), (35, .val (.int .i64 (fd : Nat))), (36, .val (.agg #[.int .i64 (k 0), .int .i64 (k 1), .int .i64 (k 2), .int .i64 (k 3), .int .i64 (k 4)])), (37, .val (.int .i64 ((m : Nat) : Int))), (38, .val (.bool false))]
        (fun W => OcSt w k ng fd r W) mixedOk (by kernel_rfl) (by kernel_rfl) (h1.below (Below.refl _ _).drew) (fun W W' h hb => h.below hb) ?_ ?_
      · refine gSt (gStep_run rfl ?_) ?_
        · intro ρ W hC hc hf hL
          have e3 : ρ (.tmp 3) = .pointer (some ⟨w.heap.size + 1, 0, none⟩) := hL 3 (by decide +kernel)
          simp [go_sem, hc, hf, e3]
          exact ⟨Below.refl _ _, rfl⟩
        refine gSt (gStep_run rfl ?_) ?_
        · intro ρ W hC hc hf hL
          have e34 : ρ (.tmp 34) = .pointer (some ⟨w.heap.size + 1, 1, none⟩) := hL 34 (by decide +kernel)
          have hl := hC.p1
          simp [go_sem, hc, hf, e34, hl]
          exact ⟨Below.refl _ _, rfl⟩
        refine gSt (gStep_run rfl ?_) ?_
        · intro ρ W hC hc hf hL
          have e2 : ρ (.tmp 2) = .pointer (some ⟨w.heap.size, 0, none⟩) := hL 2 (by decide +kernel)
          have g0 := hC.rk 0 (by decide)
          have g1 := hC.rk 1 (by decide)
          have g2 := hC.rk 2 (by decide)
          have g3 := hC.rk 3 (by decide)
          have g4 := hC.rk 4 (by decide)
          simp [go_sem, hc, hf, e2, g0, g1, g2, g3, g4]
          exact ⟨Below.refl _ _, rfl⟩
        refine gSt (gStep_run rfl ?_) ?_
        · intro ρ W hC hc hf hL
          have e36 : ρ (.tmp 36) = .agg #[.int .i64 (k 0), .int .i64 (k 1), .int .i64 (k 2), .int .i64 (k 3), .int .i64 (k 4)] := hL 36 (by decide +kernel)
          simp [go_sem, hc, hf, e36]
          refine (HON.out W).mono ?_
          rintro e w' ⟨rfl, hb⟩
          exact ⟨_, rfl, by first | exact hb | (subst hb; exact Below.refl _ _), rfl⟩
        refine gSt (gStep_run rfl ?_) ?_
        · intro ρ W hC hc hf hL
          have e35 : ρ (.tmp 35) = .int .i64 (fd : Nat) := hL 35 (by decide +kernel)
          have e37 : ρ (.tmp 37) = .int .i64 ((m : Nat) : Int) := hL 37 (by decide +kernel)
          have hl := HEQ.out
          simp [go_sem, hc, hf, e35, e37, hl]
          exact ⟨Below.refl _ _, rfl⟩
        exact gSt0
      · intro W hC
        refine gFi 34 rfl ?_
        rintro _ rfl
        refine gFi 35 rfl ?_
        rintro _ rfl
        refine gFi 36 rfl ?_
        rintro _ rfl
        refine gFi 37 rfl ?_
        rintro _ rfl
        refine gFi 38 rfl ?_
        rintro _ rfl
        refine gFi0 ?_
        simp only [List.drop_succ_cons, List.drop_zero, Act.put, List.setIfInBounds_toArray, List.set_cons_succ, List.set_cons_zero]
        have HB := hide hC.bel
        have hl := hC.p1
        have hf := HF.out
        clear hC h1
        go_wp2
        go_ret
        exact ⟨rfl, HB.out⟩

end Go.Proofs.YtpcjdllijkjdkaaDoor

/- Contracts: class.Of with its numbers, Neg, Field; law06.awake. -/
set_option linter.unusedVariables false
set_option linter.unusedSimpArgs false
set_option maxRecDepth 8000
namespace Go.Proofs.YtpcjdllijkjdkaaDoor
open Go.RowKit Plain

/-- The class of a field and a fraction. -/
def clsP (P F fd r : Nat) : Nat := if fd = 2 ^ F - 1 then (if r = 0 then 3 else if r / 2 ^ (P - 2) % 2 = 1 then 2 else 1) else if fd = 0 then (if r = 0 then 6 else 5) else 4
/-- The class of a word's number. -/
def clsN (B P F a : Nat) : Nat := if a < 2 ^ B then clsP P F (a / 2 ^ (P - 1) % 2 ^ F) (a % 2 ^ (P - 1)) else 0
def fldN (B P F a : Nat) : Nat := if a < 2 ^ B then a / 2 ^ (P - 1) % 2 ^ F else 0
def negN (B a : Nat) : Bool := decide (a < 2 ^ B) && (a / 2 ^ (B - 1) % 2 == 1)

theorem ofC1_any (P F : Nat) (k : Nat → Int) (ng : Bool) (fd r : Nat) (hr : r < QQ) (hP : 2 ≤ P ∧ P ≤ 200) (hk : k 1 = (P : Int)) (hF : F ≤ 20) (hfd : fd < 2 ^ F)
    (HON : Hid (∀ w, Calls Tryd.prog 110 #[.agg #[.int .i64 (k 0), .int .i64 (k 1), .int .i64 (k 2), .int .i64 (k 3), .int .i64 (k 4)]] w fun e w' => e = .returned (.int .i64 ((2 ^ F - 1 : Nat) : Int)) ∧ Below w.heap.size w w')) (w : World) :
    Calls Tryd.prog 132 #[.agg #[.int .i64 (k 0), .int .i64 (k 1), .int .i64 (k 2), .int .i64 (k 3), .int .i64 (k 4)], .agg #[.bool ng, .int .i64 ((fd : Nat)), .int .u64 (dgl r 0 : Nat), .int .u64 (dgl r 1 : Nat), .int .u64 (dgl r 2 : Nat), .int .u64 (dgl r 3 : Nat), .int .u64 (dgl r 4 : Nat), .int .u64 (dgl r 5 : Nat), .int .u64 (dgl r 6 : Nat), .int .u64 (dgl r 7 : Nat)]] w fun e w' => e = .returned (.int .i64 ((clsP P F fd r : Nat) : Int)) ∧ Below w.heap.size w w' := by
  have hp2 := Nat.two_pow_pos F
  have hw1 : IntKind.i64.wrap (k 1 - 2) = k 1 - 2 := by rw [hk, IntKind.wrap_i64]; omega
  by_cases h1 : fd = 2 ^ F - 1
  · have HEQ : Hid (((fd : Int) == ((2 ^ F - 1 : Nat) : Int)) = true) := by unfold Hid; rw [beq_iff_eq, h1]
    by_cases h0 : r = 0
    · rw [show clsP P F fd r = 3 by unfold clsP; rw [if_pos h1, if_pos h0]]
      exact of1_inf k ng fd r _ hr h0 HEQ HON w
    · have hb := fun w => wideBit_any r (k 1 - 2) hr (by omega) (by omega) w
      rw [show (k 1 - 2).toNat = P - 2 by omega] at hb
      by_cases h2 : r / 2 ^ (P - 2) % 2 = 1
      · rw [show clsP P F fd r = 2 by unfold clsP; rw [if_pos h1, if_neg h0, if_pos h2]]
        rw [show (r / 2 ^ (P - 2) % 2 == 1) = true by rw [beq_iff_eq]; exact h2] at hb
        exact of1_quiet k ng fd r _ hr h0 HEQ hw1 hb HON w
      · rw [show clsP P F fd r = 1 by unfold clsP; rw [if_pos h1, if_neg h0, if_neg h2]]
        rw [show (r / 2 ^ (P - 2) % 2 == 1) = false by rw [beq_eq_false_iff_ne]; exact h2] at hb
        exact of1_sig k ng fd r _ hr h0 HEQ hw1 hb HON w
  · have HEQ : Hid (((fd : Int) == ((2 ^ F - 1 : Nat) : Int)) = false) := by unfold Hid; rw [beq_eq_false_iff_ne]; omega
    by_cases hf : fd = 0
    · have HF : Hid (((fd : Int) != 0) = false) := by unfold Hid; rw [bne_eq_false_iff_eq]; omega
      by_cases h0 : r = 0
      · rw [show clsP P F fd r = 6 by unfold clsP; rw [if_neg h1, if_pos hf, if_pos h0]]
        exact of1_zero k ng fd r _ hr h0 HF HEQ HON w
      · rw [show clsP P F fd r = 5 by unfold clsP; rw [if_neg h1, if_pos hf, if_neg h0]]
        exact of1_sub k ng fd r _ hr h0 HF HEQ HON w
    · have HF : Hid (((fd : Int) != 0) = true) := by unfold Hid; rw [bne_iff_ne]; omega
      rw [show clsP P F fd r = 4 by unfold clsP; rw [if_neg h1, if_neg hf]]
      by_cases h0 : r = 0
      · exact of1_norm0 k ng fd r _ hr h0 HF HEQ HON w
      · exact of1_norm k ng fd r _ hr h0 HF HEQ HON w

theorem negC1_any (k : Nat → Int) (ng : Bool) (fd r : Nat) (w : World) : Calls Tryd.prog 137 #[.agg #[.int .i64 (k 0), .int .i64 (k 1), .int .i64 (k 2), .int .i64 (k 3), .int .i64 (k 4)], .agg #[.bool ng, .int .i64 ((fd : Nat)), .int .u64 (dgl r 0 : Nat), .int .u64 (dgl r 1 : Nat), .int .u64 (dgl r 2 : Nat), .int .u64 (dgl r 3 : Nat), .int .u64 (dgl r 4 : Nat), .int .u64 (dgl r 5 : Nat), .int .u64 (dgl r 6 : Nat), .int .u64 (dgl r 7 : Nat)]] w fun e w' => e = .returned (.bool ng) ∧ Below w.heap.size w w' := by
  go_enter Tryd.func137, Tryd.ntmps137
  go_wp2
  go_ret
  exact ⟨rfl, below_trans (below_allocs _ _) (below_allocs _ _)⟩

theorem fieldC1_any (k : Nat → Int) (ng : Bool) (fd r : Nat) (w : World) : Calls Tryd.prog 141 #[.agg #[.int .i64 (k 0), .int .i64 (k 1), .int .i64 (k 2), .int .i64 (k 3), .int .i64 (k 4)], .agg #[.bool ng, .int .i64 ((fd : Nat)), .int .u64 (dgl r 0 : Nat), .int .u64 (dgl r 1 : Nat), .int .u64 (dgl r 2 : Nat), .int .u64 (dgl r 3 : Nat), .int .u64 (dgl r 4 : Nat), .int .u64 (dgl r 5 : Nat), .int .u64 (dgl r 6 : Nat), .int .u64 (dgl r 7 : Nat)]] w fun e w' => e = .returned (.int .i64 ((fd : Nat) : Int)) ∧ Below w.heap.size w w' := by
  go_enter Tryd.func141, Tryd.ntmps141
  go_wp2
  go_ret
  exact ⟨rfl, below_trans (below_allocs _ _) (below_allocs _ _)⟩

theorem cof_pass (f : Int) (hi lo : Nat) (x : Int) (HM : Hid (∀ w, FmtG w → Calls Tryd.prog 131 #[.int .i64 f, .agg #[.int .u64 (hi : Nat), .int .u64 (lo : Nat)], .func (.func 132) #[] #[]] w fun e w' => e = .returned (.int .i64 x) ∧ Below w.heap.size w w')) (w : World) (hg : FmtG w) :
    Calls Tryd.prog 92 #[.int .i64 f, .agg #[.int .u64 (hi : Nat), .int .u64 (lo : Nat)]] w fun e w' => e = .returned (.int .i64 x) ∧ Below w.heap.size w w' := by
  have HB0 := hide (below_allocs w (.cells #[.int .u64 (hi : Nat), .int .u64 (lo : Nat)] 28))
  have HG := hide (hg.below HB0.out)
  clear hg
  go_enter Tryd.func92, Tryd.ntmps92
  go_wp2_with fail
  refine (HM.out _ HG.out).mono ?_
  rintro e w1 ⟨rfl, hb1⟩
  have HB := hide (below_trans HB0.out hb1)
  clear hb1 HG HB0
  go_wp2
  go_ret
  exact ⟨rfl, HB.out⟩
theorem cof_none (f : Int) (h : f < 1 ∨ 4 < f) (hi lo : Nat) (w : World) (hg : FmtG w) : Calls Tryd.prog 92 #[.int .i64 f, .agg #[.int .u64 (hi : Nat), .int .u64 (lo : Nat)]] w fun e w' => e = .returned (.int .i64 0) ∧ Below w.heap.size w w' :=
  cof_pass f hi lo 0 (fun w hg => asked_int_no f hi lo _ (fun w hg => fits_none f h hi lo w) w hg) w hg
theorem cof_1 (hi lo : Nat) (hh : hi < 18446744073709551616) (hl : lo < 18446744073709551616) (w : World) (hg : FmtG w) : Calls Tryd.prog 92 #[.int .i64 1, .agg #[.int .u64 (hi : Nat), .int .u64 (lo : Nat)]] w fun e w' => e = .returned (.int .i64 ((clsN 16 11 5 (lo + 18446744073709551616 * hi) : Nat) : Int)) ∧ Below w.heap.size w w' := by
  refine cof_pass 1 hi lo _ (fun w hg => ?_) w hg
  have hQ := q200
  have hq : (lo + 18446744073709551616 * hi) < QQ := by omega
  by_cases h : (lo + 18446744073709551616 * hi) < 2 ^ 16
  · rw [show clsN 16 11 5 (lo + 18446744073709551616 * hi) = clsP 11 5 ((lo + 18446744073709551616 * hi) / 2 ^ 10 % 2 ^ 5) ((lo + 18446744073709551616 * hi) % 2 ^ 10) from by unfold clsN; rw [if_pos h]]
    exact asked_int 1 hi lo (lo + 18446744073709551616 * hi) _ _ _ (fun i => [16, 11, 15, -14, 5].getD i 0) 132 _ (enters_of Tryd.func132 (by kernel_rfl) rfl) (fun w hg => by have h1 := fits_1 hi lo hh hl w hg; rw [decide_eq_true h] at h1; exact h1) (fun w hg => of_1 w hg) (fun w => wideFrom_any hi lo hh hl w) (fun w => taken_1 _ h w) (fun w => ofC1_any 11 5 (fun i => [16, 11, 15, -14, 5].getD i 0) _ _ _ (Nat.lt_of_le_of_lt (Nat.mod_le _ _) hq) (by decide) rfl (by decide) (Nat.mod_lt _ (Nat.two_pow_pos _)) (fun w => ones_1 w) w) w hg
  · rw [show clsN 16 11 5 (lo + 18446744073709551616 * hi) = 0 from by unfold clsN; rw [if_neg h]]
    exact asked_int_no 1 hi lo _ (fun w hg => by have h1 := fits_1 hi lo hh hl w hg; rw [decide_eq_false h] at h1; exact h1) w hg
theorem cof_2 (hi lo : Nat) (hh : hi < 18446744073709551616) (hl : lo < 18446744073709551616) (w : World) (hg : FmtG w) : Calls Tryd.prog 92 #[.int .i64 2, .agg #[.int .u64 (hi : Nat), .int .u64 (lo : Nat)]] w fun e w' => e = .returned (.int .i64 ((clsN 32 24 8 (lo + 18446744073709551616 * hi) : Nat) : Int)) ∧ Below w.heap.size w w' := by
  refine cof_pass 2 hi lo _ (fun w hg => ?_) w hg
  have hQ := q200
  have hq : (lo + 18446744073709551616 * hi) < QQ := by omega
  by_cases h : (lo + 18446744073709551616 * hi) < 2 ^ 32
  · rw [show clsN 32 24 8 (lo + 18446744073709551616 * hi) = clsP 24 8 ((lo + 18446744073709551616 * hi) / 2 ^ 23 % 2 ^ 8) ((lo + 18446744073709551616 * hi) % 2 ^ 23) from by unfold clsN; rw [if_pos h]]
    exact asked_int 2 hi lo (lo + 18446744073709551616 * hi) _ _ _ (fun i => [32, 24, 127, -126, 8].getD i 0) 132 _ (enters_of Tryd.func132 (by kernel_rfl) rfl) (fun w hg => by have h1 := fits_2 hi lo hh hl w hg; rw [decide_eq_true h] at h1; exact h1) (fun w hg => of_2 w hg) (fun w => wideFrom_any hi lo hh hl w) (fun w => taken_2 _ h w) (fun w => ofC1_any 24 8 (fun i => [32, 24, 127, -126, 8].getD i 0) _ _ _ (Nat.lt_of_le_of_lt (Nat.mod_le _ _) hq) (by decide) rfl (by decide) (Nat.mod_lt _ (Nat.two_pow_pos _)) (fun w => ones_2 w) w) w hg
  · rw [show clsN 32 24 8 (lo + 18446744073709551616 * hi) = 0 from by unfold clsN; rw [if_neg h]]
    exact asked_int_no 2 hi lo _ (fun w hg => by have h1 := fits_2 hi lo hh hl w hg; rw [decide_eq_false h] at h1; exact h1) w hg
theorem cof_3 (hi lo : Nat) (hh : hi < 18446744073709551616) (hl : lo < 18446744073709551616) (w : World) (hg : FmtG w) : Calls Tryd.prog 92 #[.int .i64 3, .agg #[.int .u64 (hi : Nat), .int .u64 (lo : Nat)]] w fun e w' => e = .returned (.int .i64 ((clsN 64 53 11 (lo + 18446744073709551616 * hi) : Nat) : Int)) ∧ Below w.heap.size w w' := by
  refine cof_pass 3 hi lo _ (fun w hg => ?_) w hg
  have hQ := q200
  have hq : (lo + 18446744073709551616 * hi) < QQ := by omega
  by_cases h : (lo + 18446744073709551616 * hi) < 2 ^ 64
  · rw [show clsN 64 53 11 (lo + 18446744073709551616 * hi) = clsP 53 11 ((lo + 18446744073709551616 * hi) / 2 ^ 52 % 2 ^ 11) ((lo + 18446744073709551616 * hi) % 2 ^ 52) from by unfold clsN; rw [if_pos h]]
    exact asked_int 3 hi lo (lo + 18446744073709551616 * hi) _ _ _ (fun i => [64, 53, 1023, -1022, 11].getD i 0) 132 _ (enters_of Tryd.func132 (by kernel_rfl) rfl) (fun w hg => by have h1 := fits_3 hi lo hh hl w hg; rw [decide_eq_true h] at h1; exact h1) (fun w hg => of_3 w hg) (fun w => wideFrom_any hi lo hh hl w) (fun w => taken_3 _ h w) (fun w => ofC1_any 53 11 (fun i => [64, 53, 1023, -1022, 11].getD i 0) _ _ _ (Nat.lt_of_le_of_lt (Nat.mod_le _ _) hq) (by decide) rfl (by decide) (Nat.mod_lt _ (Nat.two_pow_pos _)) (fun w => ones_3 w) w) w hg
  · rw [show clsN 64 53 11 (lo + 18446744073709551616 * hi) = 0 from by unfold clsN; rw [if_neg h]]
    exact asked_int_no 3 hi lo _ (fun w hg => by have h1 := fits_3 hi lo hh hl w hg; rw [decide_eq_false h] at h1; exact h1) w hg
theorem cof_4 (hi lo : Nat) (hh : hi < 18446744073709551616) (hl : lo < 18446744073709551616) (w : World) (hg : FmtG w) : Calls Tryd.prog 92 #[.int .i64 4, .agg #[.int .u64 (hi : Nat), .int .u64 (lo : Nat)]] w fun e w' => e = .returned (.int .i64 ((clsN 128 113 15 (lo + 18446744073709551616 * hi) : Nat) : Int)) ∧ Below w.heap.size w w' := by
  refine cof_pass 4 hi lo _ (fun w hg => ?_) w hg
  have hQ := q200
  have hq : (lo + 18446744073709551616 * hi) < QQ := by omega
  by_cases h : (lo + 18446744073709551616 * hi) < 2 ^ 128
  · rw [show clsN 128 113 15 (lo + 18446744073709551616 * hi) = clsP 113 15 ((lo + 18446744073709551616 * hi) / 2 ^ 112 % 2 ^ 15) ((lo + 18446744073709551616 * hi) % 2 ^ 112) from by unfold clsN; rw [if_pos h]]
    exact asked_int 4 hi lo (lo + 18446744073709551616 * hi) _ _ _ (fun i => [128, 113, 16383, -16382, 15].getD i 0) 132 _ (enters_of Tryd.func132 (by kernel_rfl) rfl) (fun w hg => by have h1 := fits_4 hi lo hh hl w hg; rw [decide_eq_true h] at h1; exact h1) (fun w hg => of_4 w hg) (fun w => wideFrom_any hi lo hh hl w) (fun w => taken_4 _ h w) (fun w => ofC1_any 113 15 (fun i => [128, 113, 16383, -16382, 15].getD i 0) _ _ _ (Nat.lt_of_le_of_lt (Nat.mod_le _ _) hq) (by decide) rfl (by decide) (Nat.mod_lt _ (Nat.two_pow_pos _)) (fun w => ones_4 w) w) w hg
  · rw [show clsN 128 113 15 (lo + 18446744073709551616 * hi) = 0 from by unfold clsN; rw [if_neg h]]
    exact asked_int_no 4 hi lo _ (fun w hg => by have h1 := fits_4 hi lo hh hl w hg; rw [decide_eq_false h] at h1; exact h1) w hg

theorem cneg_pass (f : Int) (hi lo : Nat) (x : Bool) (HM : Hid (∀ w, FmtG w → Calls Tryd.prog 136 #[.int .i64 f, .agg #[.int .u64 (hi : Nat), .int .u64 (lo : Nat)], .func (.func 137) #[] #[]] w fun e w' => e = .returned (.bool x) ∧ Below w.heap.size w w')) (w : World) (hg : FmtG w) :
    Calls Tryd.prog 97 #[.int .i64 f, .agg #[.int .u64 (hi : Nat), .int .u64 (lo : Nat)]] w fun e w' => e = .returned (.bool x) ∧ Below w.heap.size w w' := by
  have HB0 := hide (below_allocs w (.cells #[.int .u64 (hi : Nat), .int .u64 (lo : Nat)] 28))
  have HG := hide (hg.below HB0.out)
  clear hg
  go_enter Tryd.func97, Tryd.ntmps97
  go_wp2_with fail
  refine (HM.out _ HG.out).mono ?_
  rintro e w1 ⟨rfl, hb1⟩
  have HB := hide (below_trans HB0.out hb1)
  clear hb1 HG HB0
  go_wp2
  go_ret
  exact ⟨rfl, HB.out⟩
theorem cneg_none (f : Int) (h : f < 1 ∨ 4 < f) (hi lo : Nat) (w : World) (hg : FmtG w) : Calls Tryd.prog 97 #[.int .i64 f, .agg #[.int .u64 (hi : Nat), .int .u64 (lo : Nat)]] w fun e w' => e = .returned (.bool false) ∧ Below w.heap.size w w' :=
  cneg_pass f hi lo false (fun w hg => asked_bool_no f hi lo _ (fun w hg => fits_none f h hi lo w) w hg) w hg
theorem cneg_1 (hi lo : Nat) (hh : hi < 18446744073709551616) (hl : lo < 18446744073709551616) (w : World) (hg : FmtG w) : Calls Tryd.prog 97 #[.int .i64 1, .agg #[.int .u64 (hi : Nat), .int .u64 (lo : Nat)]] w fun e w' => e = .returned (.bool (negN 16 (lo + 18446744073709551616 * hi))) ∧ Below w.heap.size w w' := by
  refine cneg_pass 1 hi lo _ (fun w hg => ?_) w hg
  have hQ := q200
  have hq : (lo + 18446744073709551616 * hi) < QQ := by omega
  by_cases h : (lo + 18446744073709551616 * hi) < 2 ^ 16
  · rw [show negN 16 (lo + 18446744073709551616 * hi) = ((lo + 18446744073709551616 * hi) / 2 ^ 15 % 2 == 1) from by unfold negN; rw [decide_eq_true h, Bool.true_and]]
    exact asked_bool 1 hi lo (lo + 18446744073709551616 * hi) _ _ _ (fun i => [16, 11, 15, -14, 5].getD i 0) 137 _ (enters_of Tryd.func137 (by kernel_rfl) rfl) (fun w hg => by have h1 := fits_1 hi lo hh hl w hg; rw [decide_eq_true h] at h1; exact h1) (fun w hg => of_1 w hg) (fun w => wideFrom_any hi lo hh hl w) (fun w => taken_1 _ h w) (fun w => negC1_any (fun i => [16, 11, 15, -14, 5].getD i 0) _ _ _ w) w hg
  · rw [show negN 16 (lo + 18446744073709551616 * hi) = false from by unfold negN; rw [decide_eq_false h, Bool.false_and]]
    exact asked_bool_no 1 hi lo _ (fun w hg => by have h1 := fits_1 hi lo hh hl w hg; rw [decide_eq_false h] at h1; exact h1) w hg
theorem cneg_2 (hi lo : Nat) (hh : hi < 18446744073709551616) (hl : lo < 18446744073709551616) (w : World) (hg : FmtG w) : Calls Tryd.prog 97 #[.int .i64 2, .agg #[.int .u64 (hi : Nat), .int .u64 (lo : Nat)]] w fun e w' => e = .returned (.bool (negN 32 (lo + 18446744073709551616 * hi))) ∧ Below w.heap.size w w' := by
  refine cneg_pass 2 hi lo _ (fun w hg => ?_) w hg
  have hQ := q200
  have hq : (lo + 18446744073709551616 * hi) < QQ := by omega
  by_cases h : (lo + 18446744073709551616 * hi) < 2 ^ 32
  · rw [show negN 32 (lo + 18446744073709551616 * hi) = ((lo + 18446744073709551616 * hi) / 2 ^ 31 % 2 == 1) from by unfold negN; rw [decide_eq_true h, Bool.true_and]]
    exact asked_bool 2 hi lo (lo + 18446744073709551616 * hi) _ _ _ (fun i => [32, 24, 127, -126, 8].getD i 0) 137 _ (enters_of Tryd.func137 (by kernel_rfl) rfl) (fun w hg => by have h1 := fits_2 hi lo hh hl w hg; rw [decide_eq_true h] at h1; exact h1) (fun w hg => of_2 w hg) (fun w => wideFrom_any hi lo hh hl w) (fun w => taken_2 _ h w) (fun w => negC1_any (fun i => [32, 24, 127, -126, 8].getD i 0) _ _ _ w) w hg
  · rw [show negN 32 (lo + 18446744073709551616 * hi) = false from by unfold negN; rw [decide_eq_false h, Bool.false_and]]
    exact asked_bool_no 2 hi lo _ (fun w hg => by have h1 := fits_2 hi lo hh hl w hg; rw [decide_eq_false h] at h1; exact h1) w hg
theorem cneg_3 (hi lo : Nat) (hh : hi < 18446744073709551616) (hl : lo < 18446744073709551616) (w : World) (hg : FmtG w) : Calls Tryd.prog 97 #[.int .i64 3, .agg #[.int .u64 (hi : Nat), .int .u64 (lo : Nat)]] w fun e w' => e = .returned (.bool (negN 64 (lo + 18446744073709551616 * hi))) ∧ Below w.heap.size w w' := by
  refine cneg_pass 3 hi lo _ (fun w hg => ?_) w hg
  have hQ := q200
  have hq : (lo + 18446744073709551616 * hi) < QQ := by omega
  by_cases h : (lo + 18446744073709551616 * hi) < 2 ^ 64
  · rw [show negN 64 (lo + 18446744073709551616 * hi) = ((lo + 18446744073709551616 * hi) / 2 ^ 63 % 2 == 1) from by unfold negN; rw [decide_eq_true h, Bool.true_and]]
    exact asked_bool 3 hi lo (lo + 18446744073709551616 * hi) _ _ _ (fun i => [64, 53, 1023, -1022, 11].getD i 0) 137 _ (enters_of Tryd.func137 (by kernel_rfl) rfl) (fun w hg => by have h1 := fits_3 hi lo hh hl w hg; rw [decide_eq_true h] at h1; exact h1) (fun w hg => of_3 w hg) (fun w => wideFrom_any hi lo hh hl w) (fun w => taken_3 _ h w) (fun w => negC1_any (fun i => [64, 53, 1023, -1022, 11].getD i 0) _ _ _ w) w hg
  · rw [show negN 64 (lo + 18446744073709551616 * hi) = false from by unfold negN; rw [decide_eq_false h, Bool.false_and]]
    exact asked_bool_no 3 hi lo _ (fun w hg => by have h1 := fits_3 hi lo hh hl w hg; rw [decide_eq_false h] at h1; exact h1) w hg
theorem cneg_4 (hi lo : Nat) (hh : hi < 18446744073709551616) (hl : lo < 18446744073709551616) (w : World) (hg : FmtG w) : Calls Tryd.prog 97 #[.int .i64 4, .agg #[.int .u64 (hi : Nat), .int .u64 (lo : Nat)]] w fun e w' => e = .returned (.bool (negN 128 (lo + 18446744073709551616 * hi))) ∧ Below w.heap.size w w' := by
  refine cneg_pass 4 hi lo _ (fun w hg => ?_) w hg
  have hQ := q200
  have hq : (lo + 18446744073709551616 * hi) < QQ := by omega
  by_cases h : (lo + 18446744073709551616 * hi) < 2 ^ 128
  · rw [show negN 128 (lo + 18446744073709551616 * hi) = ((lo + 18446744073709551616 * hi) / 2 ^ 127 % 2 == 1) from by unfold negN; rw [decide_eq_true h, Bool.true_and]]
    exact asked_bool 4 hi lo (lo + 18446744073709551616 * hi) _ _ _ (fun i => [128, 113, 16383, -16382, 15].getD i 0) 137 _ (enters_of Tryd.func137 (by kernel_rfl) rfl) (fun w hg => by have h1 := fits_4 hi lo hh hl w hg; rw [decide_eq_true h] at h1; exact h1) (fun w hg => of_4 w hg) (fun w => wideFrom_any hi lo hh hl w) (fun w => taken_4 _ h w) (fun w => negC1_any (fun i => [128, 113, 16383, -16382, 15].getD i 0) _ _ _ w) w hg
  · rw [show negN 128 (lo + 18446744073709551616 * hi) = false from by unfold negN; rw [decide_eq_false h, Bool.false_and]]
    exact asked_bool_no 4 hi lo _ (fun w hg => by have h1 := fits_4 hi lo hh hl w hg; rw [decide_eq_false h] at h1; exact h1) w hg

theorem cfld_pass (f : Int) (hi lo : Nat) (x : Int) (HM : Hid (∀ w, FmtG w → Calls Tryd.prog 131 #[.int .i64 f, .agg #[.int .u64 (hi : Nat), .int .u64 (lo : Nat)], .func (.func 141) #[] #[]] w fun e w' => e = .returned (.int .i64 x) ∧ Below w.heap.size w w')) (w : World) (hg : FmtG w) :
    Calls Tryd.prog 101 #[.int .i64 f, .agg #[.int .u64 (hi : Nat), .int .u64 (lo : Nat)]] w fun e w' => e = .returned (.int .i64 x) ∧ Below w.heap.size w w' := by
  have HB0 := hide (below_allocs w (.cells #[.int .u64 (hi : Nat), .int .u64 (lo : Nat)] 28))
  have HG := hide (hg.below HB0.out)
  clear hg
  go_enter Tryd.func101, Tryd.ntmps101
  go_wp2_with fail
  refine (HM.out _ HG.out).mono ?_
  rintro e w1 ⟨rfl, hb1⟩
  have HB := hide (below_trans HB0.out hb1)
  clear hb1 HG HB0
  go_wp2
  go_ret
  exact ⟨rfl, HB.out⟩
theorem cfld_none (f : Int) (h : f < 1 ∨ 4 < f) (hi lo : Nat) (w : World) (hg : FmtG w) : Calls Tryd.prog 101 #[.int .i64 f, .agg #[.int .u64 (hi : Nat), .int .u64 (lo : Nat)]] w fun e w' => e = .returned (.int .i64 0) ∧ Below w.heap.size w w' :=
  cfld_pass f hi lo 0 (fun w hg => asked_int_no f hi lo _ (fun w hg => fits_none f h hi lo w) w hg) w hg
theorem cfld_1 (hi lo : Nat) (hh : hi < 18446744073709551616) (hl : lo < 18446744073709551616) (w : World) (hg : FmtG w) : Calls Tryd.prog 101 #[.int .i64 1, .agg #[.int .u64 (hi : Nat), .int .u64 (lo : Nat)]] w fun e w' => e = .returned (.int .i64 ((fldN 16 11 5 (lo + 18446744073709551616 * hi) : Nat) : Int)) ∧ Below w.heap.size w w' := by
  refine cfld_pass 1 hi lo _ (fun w hg => ?_) w hg
  have hQ := q200
  have hq : (lo + 18446744073709551616 * hi) < QQ := by omega
  by_cases h : (lo + 18446744073709551616 * hi) < 2 ^ 16
  · rw [show fldN 16 11 5 (lo + 18446744073709551616 * hi) = (lo + 18446744073709551616 * hi) / 2 ^ 10 % 2 ^ 5 from by unfold fldN; rw [if_pos h]]
    exact asked_int 1 hi lo (lo + 18446744073709551616 * hi) _ _ _ (fun i => [16, 11, 15, -14, 5].getD i 0) 141 _ (enters_of Tryd.func141 (by kernel_rfl) rfl) (fun w hg => by have h1 := fits_1 hi lo hh hl w hg; rw [decide_eq_true h] at h1; exact h1) (fun w hg => of_1 w hg) (fun w => wideFrom_any hi lo hh hl w) (fun w => taken_1 _ h w) (fun w => fieldC1_any (fun i => [16, 11, 15, -14, 5].getD i 0) _ _ _ w) w hg
  · rw [show fldN 16 11 5 (lo + 18446744073709551616 * hi) = 0 from by unfold fldN; rw [if_neg h]]
    exact asked_int_no 1 hi lo _ (fun w hg => by have h1 := fits_1 hi lo hh hl w hg; rw [decide_eq_false h] at h1; exact h1) w hg
theorem cfld_2 (hi lo : Nat) (hh : hi < 18446744073709551616) (hl : lo < 18446744073709551616) (w : World) (hg : FmtG w) : Calls Tryd.prog 101 #[.int .i64 2, .agg #[.int .u64 (hi : Nat), .int .u64 (lo : Nat)]] w fun e w' => e = .returned (.int .i64 ((fldN 32 24 8 (lo + 18446744073709551616 * hi) : Nat) : Int)) ∧ Below w.heap.size w w' := by
  refine cfld_pass 2 hi lo _ (fun w hg => ?_) w hg
  have hQ := q200
  have hq : (lo + 18446744073709551616 * hi) < QQ := by omega
  by_cases h : (lo + 18446744073709551616 * hi) < 2 ^ 32
  · rw [show fldN 32 24 8 (lo + 18446744073709551616 * hi) = (lo + 18446744073709551616 * hi) / 2 ^ 23 % 2 ^ 8 from by unfold fldN; rw [if_pos h]]
    exact asked_int 2 hi lo (lo + 18446744073709551616 * hi) _ _ _ (fun i => [32, 24, 127, -126, 8].getD i 0) 141 _ (enters_of Tryd.func141 (by kernel_rfl) rfl) (fun w hg => by have h1 := fits_2 hi lo hh hl w hg; rw [decide_eq_true h] at h1; exact h1) (fun w hg => of_2 w hg) (fun w => wideFrom_any hi lo hh hl w) (fun w => taken_2 _ h w) (fun w => fieldC1_any (fun i => [32, 24, 127, -126, 8].getD i 0) _ _ _ w) w hg
  · rw [show fldN 32 24 8 (lo + 18446744073709551616 * hi) = 0 from by unfold fldN; rw [if_neg h]]
    exact asked_int_no 2 hi lo _ (fun w hg => by have h1 := fits_2 hi lo hh hl w hg; rw [decide_eq_false h] at h1; exact h1) w hg
theorem cfld_3 (hi lo : Nat) (hh : hi < 18446744073709551616) (hl : lo < 18446744073709551616) (w : World) (hg : FmtG w) : Calls Tryd.prog 101 #[.int .i64 3, .agg #[.int .u64 (hi : Nat), .int .u64 (lo : Nat)]] w fun e w' => e = .returned (.int .i64 ((fldN 64 53 11 (lo + 18446744073709551616 * hi) : Nat) : Int)) ∧ Below w.heap.size w w' := by
  refine cfld_pass 3 hi lo _ (fun w hg => ?_) w hg
  have hQ := q200
  have hq : (lo + 18446744073709551616 * hi) < QQ := by omega
  by_cases h : (lo + 18446744073709551616 * hi) < 2 ^ 64
  · rw [show fldN 64 53 11 (lo + 18446744073709551616 * hi) = (lo + 18446744073709551616 * hi) / 2 ^ 52 % 2 ^ 11 from by unfold fldN; rw [if_pos h]]
    exact asked_int 3 hi lo (lo + 18446744073709551616 * hi) _ _ _ (fun i => [64, 53, 1023, -1022, 11].getD i 0) 141 _ (enters_of Tryd.func141 (by kernel_rfl) rfl) (fun w hg => by have h1 := fits_3 hi lo hh hl w hg; rw [decide_eq_true h] at h1; exact h1) (fun w hg => of_3 w hg) (fun w => wideFrom_any hi lo hh hl w) (fun w => taken_3 _ h w) (fun w => fieldC1_any (fun i => [64, 53, 1023, -1022, 11].getD i 0) _ _ _ w) w hg
  · rw [show fldN 64 53 11 (lo + 18446744073709551616 * hi) = 0 from by unfold fldN; rw [if_neg h]]
    exact asked_int_no 3 hi lo _ (fun w hg => by have h1 := fits_3 hi lo hh hl w hg; rw [decide_eq_false h] at h1; exact h1) w hg
theorem cfld_4 (hi lo : Nat) (hh : hi < 18446744073709551616) (hl : lo < 18446744073709551616) (w : World) (hg : FmtG w) : Calls Tryd.prog 101 #[.int .i64 4, .agg #[.int .u64 (hi : Nat), .int .u64 (lo : Nat)]] w fun e w' => e = .returned (.int .i64 ((fldN 128 113 15 (lo + 18446744073709551616 * hi) : Nat) : Int)) ∧ Below w.heap.size w w' := by
  refine cfld_pass 4 hi lo _ (fun w hg => ?_) w hg
  have hQ := q200
  have hq : (lo + 18446744073709551616 * hi) < QQ := by omega
  by_cases h : (lo + 18446744073709551616 * hi) < 2 ^ 128
  · rw [show fldN 128 113 15 (lo + 18446744073709551616 * hi) = (lo + 18446744073709551616 * hi) / 2 ^ 112 % 2 ^ 15 from by unfold fldN; rw [if_pos h]]
    exact asked_int 4 hi lo (lo + 18446744073709551616 * hi) _ _ _ (fun i => [128, 113, 16383, -16382, 15].getD i 0) 141 _ (enters_of Tryd.func141 (by kernel_rfl) rfl) (fun w hg => by have h1 := fits_4 hi lo hh hl w hg; rw [decide_eq_true h] at h1; exact h1) (fun w hg => of_4 w hg) (fun w => wideFrom_any hi lo hh hl w) (fun w => taken_4 _ h w) (fun w => fieldC1_any (fun i => [128, 113, 16383, -16382, 15].getD i 0) _ _ _ w) w hg
  · rw [show fldN 128 113 15 (lo + 18446744073709551616 * hi) = 0 from by unfold fldN; rw [if_neg h]]
    exact asked_int_no 4 hi lo _ (fun w hg => by have h1 := fits_4 hi lo hh hl w hg; rw [decide_eq_false h] at h1; exact h1) w hg

end Go.Proofs.YtpcjdllijkjdkaaDoor

/- Contracts: radicandref06.Field, Neg. -/
set_option linter.unusedVariables false
set_option linter.unusedSimpArgs false
set_option maxRecDepth 8000
namespace Go.Proofs.YtpcjdllijkjdkaaDoor
open Go.RowKit Plain

theorem fld_step (a e c : Nat) : a / 2 ^ e % 2 ^ (c + 1) = 2 * (a / 2 ^ (e + 1) % 2 ^ c) + a / 2 ^ e % 2 := by
  rw [Nat.pow_succ', Nat.mod_mul, Nat.pow_succ, ← Nat.div_div_eq_div_mul]
  omega

set_option maxHeartbeats 1000000 in
theorem refFld_walk (f : Int) (B P F hi lo : Nat) (hB : B ≤ 128) (hP : 2 ≤ P) (hPF : B = P + F) (hF : F ≤ 15) (hh : hi < 18446744073709551616) (hl : lo < 18446744073709551616)
    (HN : Hid (∀ w, Calls Tryd.prog 102 #[.int .i64 f] w fun e w' => e = .returned (.int .i64 (B : Nat)) ∧ w' = w))
    (HP : Hid (∀ w, Calls Tryd.prog 34 #[.int .i64 f] w fun e w' => e = .returned (.int .i64 (P : Nat)) ∧ w' = w)) (w : World) :
    Calls Tryd.prog 75 #[.int .i64 f, .agg #[.int .u64 (hi : Nat), .int .u64 (lo : Nat)]] w fun e w' => e = .returned (.int .i64 (((lo + 18446744073709551616 * hi) / 2 ^ (P - 1) % 2 ^ F : Nat) : Int)) ∧ Below w.heap.size w w' := by
  have HBT := hide (fun n hn w => refBit5_any hi lo n hh hl hn (n : Int) rfl w)
  have HST := hide (fitSt_start hi lo w)
  have hB' : (B : Int) ≤ 128 := by omega
  have hB2 : (2 : Int) ≤ (B : Int) := by omega
  have hP' : (P : Int) ≤ 128 := by omega
  have hP2 : (2 : Int) ≤ (P : Int) := by omega
  clear hh hl
  generalize (lo + 18446744073709551616 * hi) = a at *
  go_enter Tryd.func75, Tryd.ntmps75
  go_wp2_with fail
  refine (HN.out _).mono ?_
  rintro e w1 ⟨rfl, hw⟩
  subst w1
  go_wp2_with fail
  go_loopw [5, 6] (fun v i wr => ∃ (c N : Nat) (z : Int), c ≤ F ∧ N < 65536 ∧ v = .int .i64 (N : Nat) ∧ i = .int .i64 z ∧ Hid (N = a / 2 ^ (B - 1 - c) % 2 ^ c ∧ z = (B : Int) - 2 - c) ∧ Hid (FitSt hi lo w wr)) (fun v i _ => (intOf i + 1).toNat)
  case atStart => exact ⟨0, 0, _, Nat.zero_le _, by decide, rfl, rfl, ⟨by rw [Nat.pow_zero, Nat.mod_one], by simp; omega⟩, HST⟩
  case round =>
    clear HST HN
    obtain ⟨c, N, z, hc, hN, rfl, rfl, hz, hst⟩ := hrel
    have hz2 := hz.out.2
    by_cases hlt : c < F
    · have hj : (P : Int) - 1 ≤ z := by omega
      have c0 := hst.out.h
      have c1 := hst.out.l
      have c2 := hst.out.lt
      have hN' : (N : Int) < 65536 := by omega
      obtain ⟨n, hn⟩ : ∃ n : Nat, z = (n : Int) := ⟨z.toNat, by omega⟩
      subst hn
      have hnb : n < 128 := by omega
      have hstep := fld_step a n c
      rw [show n + 1 = B - 1 - c by omega, ← hz.out.1] at hstep
      have HE := hide (show n = B - 1 - (c + 1) by omega)
      have hlow : a / 2 ^ n % 2 < 2 := Nat.mod_lt _ (by decide)
      have hN2 : a / 2 ^ n % 2 ^ (c + 1) < 65536 := by
        have h1 : a / 2 ^ n % 2 ^ (c + 1) < 2 ^ (c + 1) := Nat.mod_lt _ (Nat.two_pow_pos _)
        have h2 : 2 ^ (c + 1) ≤ 2 ^ 15 := Nat.pow_le_pow_right (by decide) (by omega)
        omega
      have HZ2 := hide (show (n : Int) - 1 = (B : Int) - 2 - ((c + 1 : Nat) : Int) by omega)
      have HN2 := hide hN2
      have HSTEP := hide hstep
      have hn1 : (n : Int) < 128 := by omega
      have hn0 : (1 : Int) ≤ (n : Int) := by omega
      clear hz hz2 hstep hN2
      go_wp2_with fail
      refine (HP.out _).mono ?_
      rintro e w1 ⟨rfl, hw⟩
      subst w1
      go_wp2_with fail
      refine (HBT.out n hnb _).mono ?_
      rintro e w1 ⟨rfl, hb1⟩
      have HS1 := hide (hst.out.below hb1)
      clear hb1 c0 c1 c2 hst
      by_cases hbit : a / 2 ^ n % 2 = 1
      · have hbb : (a / 2 ^ n % 2 == 1) = true := by rw [beq_iff_eq]; exact hbit
        rw [hbb]
        have HR : Hid (2 * N + 1 = a / 2 ^ (B - 1 - (c + 1)) % 2 ^ (c + 1)) := by unfold Hid; rw [← HE.out, HSTEP.out, hbit]
        have HR2 : Hid (2 * N + 1 < 65536) := by unfold Hid; have h1 := HN2.out; rw [HSTEP.out, hbit] at h1; exact h1
        clear hbit hbb HSTEP HN2 hlow
        go_wp2
        go_roundw
        case rel => exact ⟨c + 1, 2 * N + 1, _, by omega, HR2.out, rfl, rfl, ⟨HR.out, HZ2.out⟩, HS1⟩
        case measure =>
          show ((n : Int) - 1 + 1).toNat < ((n : Int) + 1).toNat
          omega
      · have hbb : (a / 2 ^ n % 2 == 1) = false := by rw [beq_eq_false_iff_ne]; exact hbit
        have hb0 : a / 2 ^ n % 2 = 0 := by
          generalize a / 2 ^ n % 2 = y at hbit hlow ⊢
          omega
        rw [hbb]
        have HR : Hid (2 * N = a / 2 ^ (B - 1 - (c + 1)) % 2 ^ (c + 1)) := by unfold Hid; rw [← HE.out, HSTEP.out, hb0, Nat.add_zero]
        have HR2 : Hid (2 * N < 65536) := by unfold Hid; have h1 := HN2.out; rw [HSTEP.out, hb0] at h1; exact h1
        clear hbit hbb HSTEP HN2 hlow hb0
        go_wp2
        go_roundw
        case rel => exact ⟨c + 1, 2 * N, _, by omega, HR2.out, rfl, rfl, ⟨HR.out, HZ2.out⟩, HS1⟩
        case measure =>
          show ((n : Int) - 1 + 1).toNat < ((n : Int) + 1).toNat
          omega
    · have hj : ¬ (P : Int) - 1 ≤ z := by omega
      have HR : Hid ((N : Int) = ((a / 2 ^ (P - 1) % 2 ^ F : Nat) : Int)) := by
        unfold Hid
        rw [hz.out.1, show B - 1 - c = P - 1 by omega, show c = F by omega]
      have hz1 : (0 : Int) ≤ z := by omega
      clear hz hz2
      go_wp2_with fail
      refine (HP.out _).mono ?_
      rintro e w1 ⟨rfl, hw⟩
      subst w1
      go_wp2
      go_ret
      exact ⟨ret_int HR.out, hst.out.bel⟩
theorem refFld_1 (hi lo : Nat) (hh : hi < 18446744073709551616) (hl : lo < 18446744073709551616) (w : World) : Calls Tryd.prog 75 #[.int .i64 1, .agg #[.int .u64 (hi : Nat), .int .u64 (lo : Nat)]] w fun e w' => e = .returned (.int .i64 (((lo + 18446744073709551616 * hi) / 2 ^ 10 % 2 ^ 5 : Nat) : Int)) ∧ Below w.heap.size w w' :=
  refFld_walk 1 16 11 5 hi lo (by decide) (by decide) rfl (by decide) hh hl (fun w => bits_1 w) (fun w => prec_1 w) w
theorem refFld_2 (hi lo : Nat) (hh : hi < 18446744073709551616) (hl : lo < 18446744073709551616) (w : World) : Calls Tryd.prog 75 #[.int .i64 2, .agg #[.int .u64 (hi : Nat), .int .u64 (lo : Nat)]] w fun e w' => e = .returned (.int .i64 (((lo + 18446744073709551616 * hi) / 2 ^ 23 % 2 ^ 8 : Nat) : Int)) ∧ Below w.heap.size w w' :=
  refFld_walk 2 32 24 8 hi lo (by decide) (by decide) rfl (by decide) hh hl (fun w => bits_2 w) (fun w => prec_2 w) w
theorem refFld_3 (hi lo : Nat) (hh : hi < 18446744073709551616) (hl : lo < 18446744073709551616) (w : World) : Calls Tryd.prog 75 #[.int .i64 3, .agg #[.int .u64 (hi : Nat), .int .u64 (lo : Nat)]] w fun e w' => e = .returned (.int .i64 (((lo + 18446744073709551616 * hi) / 2 ^ 52 % 2 ^ 11 : Nat) : Int)) ∧ Below w.heap.size w w' :=
  refFld_walk 3 64 53 11 hi lo (by decide) (by decide) rfl (by decide) hh hl (fun w => bits_3 w) (fun w => prec_3 w) w
theorem refFld_4 (hi lo : Nat) (hh : hi < 18446744073709551616) (hl : lo < 18446744073709551616) (w : World) : Calls Tryd.prog 75 #[.int .i64 4, .agg #[.int .u64 (hi : Nat), .int .u64 (lo : Nat)]] w fun e w' => e = .returned (.int .i64 (((lo + 18446744073709551616 * hi) / 2 ^ 112 % 2 ^ 15 : Nat) : Int)) ∧ Below w.heap.size w w' :=
  refFld_walk 4 128 113 15 hi lo (by decide) (by decide) rfl (by decide) hh hl (fun w => bits_4 w) (fun w => prec_4 w) w

end Go.Proofs.YtpcjdllijkjdkaaDoor

