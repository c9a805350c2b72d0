/- For all lists of limbs the law radicandlaw01.LimbBack returns true. -/
import Derived.Test.YtpeobjddpdffiaaLimbSumsWalk
set_option linter.unusedVariables false
namespace Go.Proofs.Ytpeobjddpdffiaa
open Go.RowKit Plain

theorem same_true (la lb : List Nat) (va vb : Value) (w : World) (ha : Rd mk64 w va la) (hb : Rd mk64 w vb lb) (h : la = lb) :
    Calls Try.prog 29 #[va, vb] w fun e w' => e = .returned (.bool true) ∧ Below w.heap.size w w' := by
  refine (same_any la lb va vb w ha hb).mono ?_
  rintro e w' ⟨rfl, q, rfl⟩
  exact ⟨ret_bool (by simp [h]), below_drewN' (Below.refl _ _) q⟩

def sgn (m : Nat) : Nat := if m = 0 then 0 else 1

theorem sign_any (m : Nat) (w : World) (hm : m ≤ 1000000000) :
    Calls Try.prog 32 #[.int .i64 (m : Nat)] w fun e w' => e = .returned (.int .i64 (sgn m : Nat)) ∧ w' = w := by
  by_cases h : m = 0
  · subst h
    go_enter Try.func32, Try.ntmps32
    go_wp2
    go_ret
    exact ⟨rfl, rfl⟩
  · have HS : Hid (sgn m = 1) := by unfold Hid sgn; rw [if_neg h]
    have h1 : (1 : Int) ≤ (m : Int) := by omega
    clear h
    go_enter Try.func32, Try.ntmps32
    go_wp2
    all_goals
      go_ret
      exact ⟨ret_int (by rw [HS.out]; omega), rfl⟩

theorem sh_back (n k : Nat) : sh (sh n (k : Int)) (-(k : Int)) = n := by
  have e1 : sh n (k : Int) = n * 2 ^ k := by unfold sh; rw [if_neg (by omega), Int.toNat_natCast]
  rw [e1]
  unfold sh
  by_cases h : k = 0
  · subst h; simp
  · rw [if_pos (by omega)]
    have : (- -(k : Int)).toNat = k := by omega
    rw [this, Nat.mul_div_cancel _ (Nat.two_pow_pos k)]

theorem bitLen_sh (n k : Nat) : Go.bitLen (sh n (k : Int)) = (Go.bitLen n + k) * sgn (Go.bitLen n) := by
  have e1 : sh n (k : Int) = n * 2 ^ k := by unfold sh; rw [if_neg (by omega), Int.toNat_natCast]
  rw [e1]
  by_cases h : n = 0
  · subst h; simp [sgn, Go.bitLen]
  · have hd : n * 2 ^ k / 2 ^ k = n := Nat.mul_div_cancel _ (Nat.two_pow_pos k)
    have := bitLen_shift (n * 2 ^ k) k (by rw [hd]; exact h)
    rw [hd] at this
    have hs : sgn (Go.bitLen n) = 1 := by unfold sgn; rw [if_neg]; unfold Go.bitLen; rw [if_neg h]; omega
    rw [this, hs]; omega

theorem back_len (T L k s : Nat) (h : T = (L + k) * s) (hs : s ≤ 1) (hL : L ≤ 100000) (hk : k ≤ 100000) : ((T : Int) == wrap64 (max 0 ((L : Int) + (k : Int)) * (s : Int))) = true := by
  have hs' : s = 0 ∨ s = 1 := by omega
  rcases hs' with rfl | rfl
  · subst h; simp [wrap64]
  · subst h; unfold wrap64; rw [beq_iff_eq]; omega

theorem bitLen_small (n len : Nat) (h : n < 18446744073709551616 ^ len) : Go.bitLen n ≤ 64 * len := by
  have hs := bitLen_spec n
  rw [LLpow] at h
  exact pow_inj_len (by decide) h (by
    by_cases h0 : n = 0
    · exact .inl (by rw [h0]; rfl)
    · exact .inr (hs.2 h0))

theorem limbBack_big (x : Nat) (la lb : List Nat) (va vb : Value) (w : World) (ha : Rd mk64 w va la) (hb : Rd mk64 w vb lb) (hbig : 30 < la.length ∨ 30 < lb.length) :
    Calls Try.prog 6 #[va, .int .u16 (x : Nat), vb] w fun e w' => e = .returned (.bool true) ∧ Below w.heap.size w w' := by
  obtain ⟨ao, ca, rfl, hca, hma, -⟩ := ha
  obtain ⟨bo, cb, rfl, hcb, hmb, -⟩ := hb
  unfold maxLen at hma hmb
  by_cases h1 : 30 < la.length
  · go_enter Try.func6, Try.ntmps6
    go_wp2_with (go_at_call 21; refine (awake_any _).mono ?_; rintro e w' ⟨rfl, hbel⟩)
    go_ret
    exact ⟨rfl, hbel⟩
  · have h2 : 30 < lb.length := by omega
    go_enter Try.func6, Try.ntmps6
    go_wp2_with (go_at_call 21; refine (awake_any _).mono ?_; rintro e w' ⟨rfl, hbel⟩)
    go_ret
    exact ⟨rfl, hbel⟩

set_option maxHeartbeats 4000000 in
theorem limbBack_small (n m x k : Nat) (hx : x < 65536) (hk : k = x % 3000) (la lb : List Nat) (va vb : Value) (w : World) (ha : Rd mk64 w va la) (hda : Dig 18446744073709551616 la n) (hb : Rd mk64 w vb lb) (hdb : Dig 18446744073709551616 lb m)
    (hla : la.length ≤ 30) (hlb : lb.length ≤ 30) :
    Calls Try.prog 6 #[va, .int .u16 (x : Nat), vb] w fun e w' => e = .returned (.bool true) ∧ Below w.heap.size w w' := by
  have ha' := ha
  have hb' := hb
  obtain ⟨ao, ca, rfl, hca, hma, -⟩ := ha'
  obtain ⟨bo, cb, rfl, hcb, hmb, -⟩ := hb'
  unfold maxLen at hma hmb
  have hB := Below.refl w.heap.size w
  have HA := hide hda
  have HB := hide hdb
  clear hda hdb
  have h1 : ¬ 30 < la.length := by omega
  have h2 : ¬ 30 < lb.length := by omega
  have hkb : k < 3000 := by omega
  have hxk : (x : Int) % 3000 = (k : Int) := by omega
  clear hk
  have hbl : Go.bitLen n ≤ 64 * la.length := bitLen_small n la.length HA.out.1
  obtain ⟨L, hL⟩ : ∃ L, Go.bitLen n = L := ⟨_, rfl⟩
  obtain ⟨T, hT⟩ : ∃ T, Go.bitLen (sh n (k : Int)) = T := ⟨_, rfl⟩
  have hTL : T = (L + k) * sgn L := by rw [← hT, ← hL]; exact bitLen_sh n k
  obtain ⟨s, hs⟩ : ∃ s, sgn L = s := ⟨_, rfl⟩
  have hs1 : s ≤ 1 := by rw [← hs]; unfold sgn; split <;> omega
  rw [hL] at hbl
  rw [hs] at hTL
  have HL := hide hL
  have HT := hide hT
  have HSG := hide hs
  have HTL := hide hTL
  clear hL hT hs hTL
  go_enter Try.func6, Try.ntmps6
  go_wp2_with fail
  refine (shift_any n (k : Int) la _ _ ha HA.out (by omega) (by omega)).mono ?_
  rintro e w1 ⟨vt, lt, rfl, hrt, hdt, hnt, hlt, hb1⟩
  replace ha := ha.below hb1
  replace hb := hb.below hb1
  replace hB := below_trans hB hb1
  clear hb1
  have HDT := hide hdt
  have HNT := hide hnt
  clear hdt hnt
  go_wp2_with fail
  refine (sum_any n 0 la [] _ _ _ ha HA.out (Rd.nil mk64 _) dig_nil (by omega) (by simp)).mono ?_
  rintro e w2 ⟨vs, ls, rfl, hrs, hds, hns, hls, hb2⟩
  replace ha := ha.below hb2
  replace hb := hb.below hb2
  replace hrt := hrt.below hb2
  replace hB := below_trans hB hb2
  clear hb2
  have HDS := hide hds
  have HNS := hide hns
  clear hds hns
  go_wp2_with fail
  refine (sum_any n m la lb _ _ _ ha HA.out hb HB.out (by omega) (by omega)).mono ?_
  rintro e w3 ⟨vu, lu, rfl, hru, hdu, hnu, hlu, hb3⟩
  replace ha := ha.below hb3
  replace hb := hb.below hb3
  replace hrt := hrt.below hb3
  replace hrs := hrs.below hb3
  replace hB := below_trans hB hb3
  clear hb3
  have HDU := hide hdu
  have HNU := hide hnu
  clear hdu hnu
  go_wp2_with fail
  refine (shift_any (sh n (k : Int)) (-(k : Int)) lt _ _ hrt HDT.out (by omega) (by omega)).mono ?_
  rintro e w4 ⟨vr, lr, rfl, hrr, hdr, hnr, hlr, hb4⟩
  replace ha := ha.below hb4
  replace hb := hb.below hb4
  replace hrt := hrt.below hb4
  replace hrs := hrs.below hb4
  replace hru := hru.below hb4
  replace hB := below_trans hB hb4
  clear hb4
  have HDR := hide hdr
  have HNR := hide hnr
  clear hdr hnr
  go_wp2_with fail
  refine (same_true lr ls _ _ _ hrr hrs (dig_unique (by decide) (by have := HDR.out; rw [sh_back] at this; exact this) (by have := HNR.out; rw [sh_back] at this; exact this) HDS.out HNS.out)).mono ?_
  rintro e w5 ⟨rfl, hb5⟩
  replace ha := ha.below hb5
  replace hb := hb.below hb5
  replace hrt := hrt.below hb5
  replace hru := hru.below hb5
  replace hB := below_trans hB hb5
  clear hb5
  clear hrr hrs
  go_wp2_with fail
  refine (len_any _ lt _ _ hrt HDT.out (by omega)).mono ?_
  rintro e w6 ⟨rfl, hw⟩
  subst w6
  rw [HT.out]
  go_wp2_with fail
  refine (len_any n la _ _ ha HA.out (by omega)).mono ?_
  rintro e w7 ⟨rfl, hw⟩
  subst w7
  rw [HL.out]
  go_wp2_with fail
  refine (len_any n la _ _ ha HA.out (by omega)).mono ?_
  rintro e w8 ⟨rfl, hw⟩
  subst w8
  rw [HL.out]
  go_wp2_with fail
  refine (sign_any L _ (by omega)).mono ?_
  rintro e w9 ⟨rfl, hw⟩
  subst w9
  rw [HSG.out]
  have hq := back_len T L k s HTL.out hs1 (by omega) (by omega)
  go_wp2_with fail
  refine (less_any (n + m) n lu la _ _ _ hru HDU.out ha HA.out).mono ?_
  rintro e w10 ⟨rfl, hw⟩
  subst w10
  rw [show decide (n + m < n) = false from by simp]
  go_wp2_with fail
  refine (sum_any m n lb la _ _ _ hb HB.out ha HA.out (by omega) (by omega)).mono ?_
  rintro e w11 ⟨vv, lv, rfl, hrv, hdv, hnv, hlv, hb11⟩
  replace hru := hru.below hb11
  replace hB := below_trans hB hb11
  clear hb11
  have HDV := hide hdv
  have HNV := hide hnv
  clear hdv hnv ha hb hrt
  go_wp2_with fail
  refine (same_true lu lv _ _ _ hru hrv (dig_unique (by decide) HDU.out HNU.out (by have := HDV.out; rw [Nat.add_comm] at this; exact this) (by have := HNV.out; rw [Nat.add_comm] at this; exact this))).mono ?_
  rintro e w12 ⟨rfl, hb12⟩
  replace hB := below_trans hB hb12
  clear hb12
  clear hru hrv
  go_wp2_with fail
  refine (awake_any _).mono ?_
  rintro e w13 ⟨rfl, hb13⟩
  replace hB := below_trans hB hb13
  clear hb13
  go_wp2
  go_ret
  exact ⟨rfl, hB⟩

theorem limbBack_walk (n m x : Nat) (hx : x < 65536) (la lb : List Nat) (va vb : Value) (w : World) (ha : Rd mk64 w va la) (hda : Dig 18446744073709551616 la n) (hb : Rd mk64 w vb lb) (hdb : Dig 18446744073709551616 lb m) :
    Calls Try.prog 6 #[va, .int .u16 (x : Nat), vb] w fun e w' => e = .returned (.bool true) ∧ Below w.heap.size w w' := by
  by_cases h : la.length ≤ 30 ∧ lb.length ≤ 30
  · exact limbBack_small n m x (x % 3000) hx rfl la lb va vb w ha hda hb hdb h.1 h.2
  · exact limbBack_big x la lb va vb w ha hb (by omega)

end Go.Proofs.Ytpeobjddpdffiaa
