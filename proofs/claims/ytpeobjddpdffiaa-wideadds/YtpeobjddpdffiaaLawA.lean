/- The law's own parts: radicandlaw01.awake, radicandref01.Small. -/
import Derived.Test.YtpeobjddpdffiaaRefC
import Derived.Test.YtpeobjddpdffiaaLimbI
set_option linter.unusedVariables false
namespace Go.Proofs.Ytpeobjddpdffiaa
open Go.RowKit Plain

theorem small_any (x : Nat) (hx : x < 18446744073709551616) (w : World) :
    Calls Try.prog 12 #[.int .u64 (x : Nat)] w fun e w' => ∃ v, e = .returned v ∧ BigV w' v x 2 ∧ Below w.heap.size w w' := by
  have hr := Rd.lit (mk := mk64) w 22 [.int .u64 (x : Nat)] [x] rfl 1 (Nat.le_refl 1) (by decide)
  have hd := dig_one (β := LL) hx
  have HR := hide hr
  clear hr
  go_enter Try.func12, Try.ntmps12
  go_wp2_with (go_at_call 19; refine (of_any [x] x _ _ HR.out hd (by simp)).mono ?_; rintro e w' ⟨v, rfl, hbig, hbel⟩)
  go_ret
  exact ⟨_, rfl, hbig, Below.trans ((Below.refl _ _).alloc (Nat.le_refl _) _) (hbel.mono (by simp))⟩

theorem sh363 : sh 3 63 = 9223372036854775808 + 18446744073709551616 * 1 := by decide
theorem bitLen65 : Go.bitLen (0 + 18446744073709551616 * 1) = 65 := by decide

set_option maxHeartbeats 1000000 in
theorem awake_any (w : World) :
    Calls Try.prog 21 #[] w fun e w' => e = .returned (.bool true) ∧ Below w.heap.size w w' := by
  have e1 : lo64 (18446744073709551615 + 1 + oneI 0) = 0 := by decide
  have e2 : hi64 (18446744073709551615 + 1 + oneI 0) = 1 := by decide
  have E1 := hide e1
  have E2 := hide e2
  clear e1 e2
  go_enter Try.func21, Try.ntmps21
  go_wp2_with (go_at_call 14; refine (limbAdd_any _ _ _ _ (by decide) (by decide)).mono ?_; rintro e w' ⟨rfl, hw⟩; subst w'; rw [E1.out, E2.out])
  have hr3 := Rd.lit (mk := mk64) w 22 [.int .u64 3] [3] rfl 1 (by decide) (by decide)
  refine (shift_any 3 63 [3] _ _ hr3 (dig_one (by decide)) (by decide) (by decide)).mono ?_
  rintro e w1 ⟨v, l, rfl, hr1, hd1, hn1, -, hb1⟩
  have hl : l = [9223372036854775808, 1] := by
    rw [sh363] at hd1 hn1
    exact dig_unique (by decide) hd1 hn1 (dig_two (by decide) (by decide)) (.inr (by decide))
  subst hl
  have HB1 := hide hb1
  have HR1 := hide hr1
  clear hd1 hn1 hr3 hb1 hr1
  go_wp2_with fail
  have hr4 := Rd.lit (mk := mk64) w1 22 [.int .u64 9223372036854775808, .int .u64 1] [9223372036854775808, 1] rfl 2 (by decide) (by decide)
  refine (same_any [9223372036854775808, 1] [9223372036854775808, 1] _ _ _ (HR1.out.below ((Below.refl _ _).alloc (Nat.le_refl _) _)) hr4).mono ?_
  rintro e w2 ⟨rfl, q, rfl⟩
  clear hr4
  have hdec : decide (([9223372036854775808, 1] : List Nat) = [9223372036854775808, 1]) = true := by decide
  rw [hdec]
  clear hdec
  have HB2 := hide (below_drewN' ((Below.refl w1.heap.size w1).alloc (Nat.le_refl _) (.cells [Value.int .u64 9223372036854775808, .int .u64 1].toArray 22)) q)
  generalize ((w1.alloc (.cells #[Value.int .u64 9223372036854775808, .int .u64 1] 22)).drewN q) = w3 at *
  go_wp2_with fail
  have hr5 := Rd.lit (mk := mk64) w3 22 [.int .u64 0, .int .u64 1] [0, 1] rfl 2 (by decide) (by decide)
  refine (len_any _ [0, 1] _ _ hr5 (dig_two (by decide) (by decide)) (by decide)).mono ?_
  rintro e w4 ⟨rfl, rfl⟩
  rw [bitLen65]
  clear hr5
  go_wp2
  go_ret
  refine ⟨rfl, ?_⟩
  refine Below.trans ((Below.refl _ _).alloc (Nat.le_refl _) (.cells [Value.int .u64 3].toArray 22)) ((HB1.out.mono (by simp)).trans ?_)
  have h1 := HB1.out.size
  have h2 := HB2.out.size
  simp only [World.size_alloc] at h1
  exact (HB2.out.mono (by omega)).alloc (by omega) _

end Go.Proofs.Ytpeobjddpdffiaa
