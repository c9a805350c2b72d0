/- For all lists of limbs the law radicandlaw01.LimbSums returns true. -/
import Derived.Test.YtpeobjddpdffiaaLawB
import Derived.Test.YtpeobjddpdffiaaRefD
set_option linter.unusedVariables false
namespace Go.Proofs.Ytpeobjddpdffiaa
open Go.RowKit Plain

theorem bitV_len {l : List Nat} {n : Nat} (h : Dig 2 l n) (hn : Norm 2 l n) : l.length = Go.bitLen n := by
  have hs := bitLen_spec n
  refine Nat.le_antisymm (pow_inj_len (by decide) hs.1 hn) (pow_inj_len (by decide) h.1 ?_)
  by_cases h0 : n = 0
  · exact .inl (by rw [h0]; rfl)
  · exact .inr (hs.2 h0)

theorem digLL {l : List Nat} {n : Nat} (h : Dig 18446744073709551616 l n) : Dig LL l n := h

theorem top_digit {l : List Nat} {n : Nat} (h : Dig 18446744073709551616 l n) (hn : Norm 18446744073709551616 l n) (h0 : l.length ≠ 0) : dg l (l.length - 1) ≠ 0 := by
  intro hz
  rw [h.2] at hz
  have := lt_of_digit_zero (β := 18446744073709551616) (k := l.length - 1) (by decide) (by rw [show l.length - 1 + 1 = l.length by omega]; exact h.1) hz
  rcases hn with h1 | h1
  · exact h0 h1
  · omega

theorem limbSums_big (la lb : List Nat) (va vb : Value) (w : World) (ha : Rd mk64 w va la) (hb : Rd mk64 w vb lb) (hbig : 40 < la.length ∨ 40 < lb.length) :
    Calls Try.prog 4 #[va, vb] w fun e w' => e = .returned (.bool true) ∧ Below w.heap.size w w' := by
  obtain ⟨ao, ca, rfl, hca, hma, -⟩ := ha
  obtain ⟨bo, cb, rfl, hcb, hmb, -⟩ := hb
  unfold maxLen at hma hmb
  by_cases h1 : 40 < la.length
  · go_enter Try.func4, Try.ntmps4
    go_wp2_with (go_at_call 21; refine (awake_any _).mono ?_; rintro e w' ⟨rfl, hbel⟩)
    go_ret
    exact ⟨rfl, hbel⟩
  · have h2 : 40 < lb.length := by omega
    go_enter Try.func4, Try.ntmps4
    go_wp2_with (go_at_call 21; refine (awake_any _).mono ?_; rintro e w' ⟨rfl, hbel⟩)
    go_ret
    exact ⟨rfl, hbel⟩

set_option maxHeartbeats 4000000 in
theorem limbSums_small (n m : Nat) (la lb : List Nat) (va vb : Value) (w : World) (ha : Rd mk64 w va la) (hda : Dig 18446744073709551616 la n) (hb : Rd mk64 w vb lb) (hdb : Dig 18446744073709551616 lb m)
    (hla : la.length ≤ 40) (hlb : lb.length ≤ 40) :
    Calls Try.prog 4 #[va, vb] w fun e w' => e = .returned (.bool true) ∧ Below w.heap.size w w' := by
  have ha' := ha
  have hb' := hb
  obtain ⟨ao, ca, rfl, hca, hma, -⟩ := ha'
  obtain ⟨bo, cb, rfl, hcb, hmb, -⟩ := hb'
  unfold maxLen at hma hmb
  have hB := Below.refl w.heap.size w
  have HA := hide hda
  have HB := hide hdb
  clear hda hdb
  have h1 : ¬ 40 < la.length := by omega
  have h2 : ¬ 40 < lb.length := by omega
  obtain ⟨cl, hcl⟩ : ∃ cl, decide (n < m) = cl := ⟨_, rfl⟩
  obtain ⟨cc, hcc⟩ : ∃ cc, cmpN n m = cc := ⟨_, rfl⟩
  have hclc : (cl == decide (cc < 0)) = true := by
    rw [← hcl, ← hcc]
    unfold cmpN
    by_cases h : n < m
    · simp [h]
    · simp only [h, if_false]
      split <;> simp
  have HCL := hide hcl
  have HCC := hide hcc
  clear hcl hcc
  go_enter Try.func4, Try.ntmps4
  go_wp2_with fail
  refine (of_any la n _ _ ha (digLL HA.out) (by omega)).mono ?_
  rintro e w1 ⟨vx, rfl, hX, hb1⟩
  replace ha := ha.below hb1
  replace hb := hb.below hb1
  replace hB := below_trans hB hb1
  clear hb1
  go_wp2_with fail
  refine (of_any lb m _ _ hb (digLL HB.out) (by omega)).mono ?_
  rintro e w2 ⟨vy, rfl, hY, hb2⟩
  replace ha := ha.below hb2
  replace hb := hb.below hb2
  replace hX := hX.below hb2
  replace hB := below_trans hB hb2
  clear hb2
  go_wp2_with fail
  refine (sum_any n m la lb _ _ _ ha HA.out hb HB.out (by omega) (by omega)).mono ?_
  rintro e w3 ⟨vs, ls, rfl, hrs, hds, hns, hls, hb3⟩
  replace ha := ha.below hb3
  replace hb := hb.below hb3
  replace hX := hX.below hb3
  replace hY := hY.below hb3
  replace hB := below_trans hB hb3
  clear hb3
  have HS := hide hds
  have HN := hide hns
  clear hds hns
  have hrs0 := hrs
  obtain ⟨so, cs, rfl, hcs, hms, hsc⟩ := hrs0
  unfold maxLen at hms
  have HSC := hide hsc
  clear hsc
  by_cases h0 : ls.length = 0
  · have hq0 : ¬ 0 < ls.length := by omega
    have H0 := hide h0
    clear h0
    go_wp2_with fail
    refine (of_any ls (n + m) _ _ hrs (digLL HS.out) (by omega)).mono ?_
    rintro e w4 ⟨v4, rfl, h4, hb4⟩
    replace ha := ha.below hb4
    replace hb := hb.below hb4
    replace hX := hX.below hb4
    replace hY := hY.below hb4
    replace hB := below_trans hB hb4
    clear hb4
    go_wp2_with fail
    refine (refAdd_any _ _ _ _ _ _ _ hX hY (by omega) (by omega)).mono ?_
    rintro e w5 ⟨v5, rfl, h5, hb5⟩
    replace ha := ha.below hb5
    replace hb := hb.below hb5
    replace hX := hX.below hb5
    replace hY := hY.below hb5
    replace h4 := h4.below hb5
    replace hB := below_trans hB hb5
    clear hb5
    go_wp2_with fail
    refine (cmp_any _ _ _ _ _ _ _ h4 h5).mono ?_
    rintro e w6 ⟨rfl, hw⟩
    subst w6
    rw [cmpN_self rfl]
    clear h4 h5
    go_wp2_with fail
    refine (less_any n m la lb _ _ _ ha HA.out hb HB.out).mono ?_
    rintro e w7 ⟨rfl, hw⟩
    subst w7
    rw [HCL.out]
    go_wp2_with fail
    refine (cmp_any _ _ _ _ _ _ _ hX hY).mono ?_
    rintro e w8 ⟨rfl, hw⟩
    subst w8
    rw [HCC.out]
    go_wp2_with fail
    refine (len_any n la _ _ ha HA.out (by omega)).mono ?_
    rintro e w9 ⟨rfl, hw⟩
    subst w9
    go_wp2_with fail
    refine (refLen_any _ _ _ _ hX (by omega)).mono ?_
    rintro e w10 ⟨rfl, hw⟩
    subst w10
    go_wp2_with fail
    refine (len_any n la _ _ ha HA.out (by omega)).mono ?_
    rintro e w11 ⟨rfl, hw⟩
    subst w11
    go_wp2_with fail
    refine (bits_any la n _ _ ha HA.out (by omega)).mono ?_
    rintro e w12 ⟨v12, rfl, h12, hb12⟩
    replace hB := below_trans hB hb12
    clear hb12
    obtain ⟨lq, ⟨qo, cq, rfl, -⟩, hdq, hnq, -⟩ := h12
    rw [bitV_len hdq hnq]
    clear hdq hnq
    go_wp2_with fail
    refine (awake_any _).mono ?_
    rintro e w13 ⟨rfl, hb13⟩
    replace hB := below_trans hB hb13
    clear hb13
    go_wp2
    go_ret
    exact ⟨rfl, hB⟩
  · have hq0 : 0 < ls.length := by omega
    rcases unhide HSC with hc | ⟨bs, os, rfl, hbs, hcell⟩
    · omega
    have hck : w3.cell? ⟨bs, os + (ls.length - 1), none⟩ = some (.int .u64 (dg ls (ls.length - 1) : Nat)) := hcell (ls.length - 1) (by omega)
    have htop := top_digit HS.out HN.out h0
    have hq1 : ((dg ls (ls.length - 1) : Int) == 0) = false := beq_eq_false_iff_ne.2 (by omega)
    have hidx : ((ls.length : Int) - 1).toNat = ls.length - 1 := by omega
    have H0 := hide h0
    clear hcell htop h0
    go_wp2_with fail
    refine (of_any ls (n + m) _ _ hrs (digLL HS.out) (by omega)).mono ?_
    rintro e w4 ⟨v4, rfl, h4, hb4⟩
    replace ha := ha.below hb4
    replace hb := hb.below hb4
    replace hX := hX.below hb4
    replace hY := hY.below hb4
    replace hB := below_trans hB hb4
    clear hb4
    go_wp2_with fail
    refine (refAdd_any _ _ _ _ _ _ _ hX hY (by omega) (by omega)).mono ?_
    rintro e w5 ⟨v5, rfl, h5, hb5⟩
    replace ha := ha.below hb5
    replace hb := hb.below hb5
    replace hX := hX.below hb5
    replace hY := hY.below hb5
    replace h4 := h4.below hb5
    replace hB := below_trans hB hb5
    clear hb5
    go_wp2_with fail
    refine (cmp_any _ _ _ _ _ _ _ h4 h5).mono ?_
    rintro e w6 ⟨rfl, hw⟩
    subst w6
    rw [cmpN_self rfl]
    clear h4 h5
    go_wp2_with fail
    refine (less_any n m la lb _ _ _ ha HA.out hb HB.out).mono ?_
    rintro e w7 ⟨rfl, hw⟩
    subst w7
    rw [HCL.out]
    go_wp2_with fail
    refine (cmp_any _ _ _ _ _ _ _ hX hY).mono ?_
    rintro e w8 ⟨rfl, hw⟩
    subst w8
    rw [HCC.out]
    go_wp2_with fail
    refine (len_any n la _ _ ha HA.out (by omega)).mono ?_
    rintro e w9 ⟨rfl, hw⟩
    subst w9
    go_wp2_with fail
    refine (refLen_any _ _ _ _ hX (by omega)).mono ?_
    rintro e w10 ⟨rfl, hw⟩
    subst w10
    go_wp2_with fail
    refine (len_any n la _ _ ha HA.out (by omega)).mono ?_
    rintro e w11 ⟨rfl, hw⟩
    subst w11
    go_wp2_with fail
    refine (bits_any la n _ _ ha HA.out (by omega)).mono ?_
    rintro e w12 ⟨v12, rfl, h12, hb12⟩
    replace hB := below_trans hB hb12
    clear hb12
    obtain ⟨lq, ⟨qo, cq, rfl, -⟩, hdq, hnq, -⟩ := h12
    rw [bitV_len hdq hnq]
    clear hdq hnq
    go_wp2_with fail
    refine (awake_any _).mono ?_
    rintro e w13 ⟨rfl, hb13⟩
    replace hB := below_trans hB hb13
    clear hb13
    go_wp2
    go_ret
    exact ⟨rfl, hB⟩

theorem limbSums_walk (n m : Nat) (la lb : List Nat) (va vb : Value) (w : World) (ha : Rd mk64 w va la) (hda : Dig 18446744073709551616 la n) (hb : Rd mk64 w vb lb) (hdb : Dig 18446744073709551616 lb m) :
    Calls Try.prog 4 #[va, vb] w fun e w' => e = .returned (.bool true) ∧ Below w.heap.size w w' := by
  by_cases h : la.length ≤ 40 ∧ lb.length ≤ 40
  · exact limbSums_small n m la lb va vb w ha hda hb hdb h.1 h.2
  · exact limbSums_big la lb va vb w ha hb (by omega)

end Go.Proofs.Ytpeobjddpdffiaa
