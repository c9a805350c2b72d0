/- Contracts and laws: UnpR, NanA. -/
import Derived.Test.YtpcjdllijkjdkaaDoorPartAX
import Derived.Test.YtpcjdllijkjdkaaDoorPartAV
import Derived.Test.YtpcjdllijkjdkaaDoorPartAT
import Derived.Test.YtpcjdllijkjdkaaDoorPartAO
import Derived.Test.YtpcjdllijkjdkaaDoorPartAK
/- Contracts: the document's Find: the greatest word that isn't above a number. -/
set_option linter.unusedVariables false
set_option linter.unusedSimpArgs false
set_option maxRecDepth 8000
namespace Go.Proofs.YtpcjdllijkjdkaaDoor
open Go.RowKit Plain

theorem finv_ex {p : Nat → Bool} {M : Nat} (hm : ∀ a b, a ≤ b → b < 2 ^ M → p b = true → p a = true) (h0 : p 0 = true) (c : Nat) (hc : c ≤ M) : ∃ x, FInv p M (M - c) x := by
  induction c with
  | zero => exact ⟨0, Nat.zero_mod _, Nat.two_pow_pos _, h0, fun y h1 h2 => by rw [Nat.sub_zero] at h1; omega⟩
  | succ c ih =>
    obtain ⟨x, hx⟩ := ih (by omega)
    rw [show M - c = M - (c + 1) + 1 by omega] at hx
    cases hp : p (x + 2 ^ (M - (c + 1)))
    · exact ⟨x, finv_leave hx hm hp⟩
    · exact ⟨_, finv_take hx (by omega) hp⟩
theorem finv_uniq {p : Nat → Bool} {M x y : Nat} (hx : FInv p M 0 x) (hy : FInv p M 0 y) : x = y := by
  obtain ⟨-, x2, x3, x4⟩ := hx
  obtain ⟨-, y2, y3, y4⟩ := hy
  rcases Nat.lt_trichotomy x y with h | h | h
  · have := x4 y (by rw [Nat.pow_zero]; omega) y2
    rw [y3] at this; cases this
  · exact h
  · have := y4 x (by rw [Nat.pow_zero]; omega) x2
    rw [x3] at this; cases this
theorem bits_u (f : Int) (h : 1 ≤ f ∧ f ≤ 4) (w : World) : Calls Tryd.prog 102 #[.int .i64 f] w fun e w' => e = .returned (.int .i64 ((mU f : Nat) + 1 : Int)) ∧ w' = w := by
  rcases f_cases f with rfl | rfl | rfl | rfl | h0
  · exact bits_1 w
  · exact bits_2 w
  · exact bits_3 w
  · exact bits_4 w
  · omega
theorem mU_le (f : Int) : mU f ≤ 127 := by
  unfold mU tU
  repeat' split
  all_goals decide
structure FdSt (neg : Bool) (z : Int) (s : Nat) (ao : Option Addr) (l ca : Nat) (x : Nat) (w W : World) : Prop where
  bg : BigV w (.slice ao l ca) s 40
  n0 : W.cell? ⟨w.heap.size, 0, none⟩ = some (.bool neg)
  n1 : W.cell? ⟨w.heap.size, 1, none⟩ = some (.slice ao l ca)
  n2 : W.cell? ⟨w.heap.size, 2, none⟩ = some (.int .i64 z)
  r : WB W (w.heap.size + 1) 0 0
  fr : ∀ i, W.frozen? ⟨w.heap.size + 1, i, none⟩ = false
  o : WB W (w.heap.size + 2) (dgl x 1) (dgl x 0)
  fo : ∀ i, W.frozen? ⟨w.heap.size + 2, i, none⟩ = false
  bel : Below w.heap.size w W
section
variable {neg : Bool} {z : Int} {s : Nat} {ao : Option Addr} {l ca x : Nat} {w W W' : World}
theorem FdSt.under (h : FdSt neg z s ao l ca (x) w W) {C : Nat} (hb : Below C W W') (hc : w.heap.size + 2 < C) : FdSt neg z s ao l ca (x) w W' := by
  have h0 : w.heap.size < C := by omega
  have h1 : w.heap.size + 1 < C := by omega
  exact ⟨h.bg, (hb.cell (p := ⟨w.heap.size, 0, none⟩) h0).trans h.n0, (hb.cell (p := ⟨w.heap.size, 1, none⟩) h0).trans h.n1, (hb.cell (p := ⟨w.heap.size, 2, none⟩) h0).trans h.n2,
    ⟨(hb.cell (p := ⟨w.heap.size + 1, 0, none⟩) h1).trans h.r.h, (hb.cell (p := ⟨w.heap.size + 1, 1, none⟩) h1).trans h.r.l, Nat.lt_of_lt_of_le h.r.lt hb.size⟩, fun i => (hb.frozen (p := ⟨w.heap.size + 1, i, none⟩) h1).trans (h.fr i),
    ⟨(hb.cell (p := ⟨w.heap.size + 2, 0, none⟩) hc).trans h.o.h, (hb.cell (p := ⟨w.heap.size + 2, 1, none⟩) hc).trans h.o.l, Nat.lt_of_lt_of_le h.o.lt hb.size⟩, fun i => (hb.frozen (p := ⟨w.heap.size + 2, i, none⟩) hc).trans (h.fo i), h.bel.trans (hb.mono (by omega))⟩
theorem FdSt.below (h : FdSt neg z s ao l ca (x) w W) (hb : Below W.heap.size W W') : FdSt neg z s ao l ca (x) w W' := h.under hb h.o.lt
theorem FdSt.num (h : FdSt neg z s ao l ca (x) w W) : NumV W (.agg #[.bool neg, .slice ao l ca, .int .i64 z]) neg z s 40 := ⟨_, rfl, h.bg.below h.bel⟩
theorem FdSt.set (h : FdSt neg z s ao l ca (x) w W) (y : Nat) : FdSt neg z s ao l ca (y) w ((W.setCell ⟨w.heap.size + 2, 0, none⟩ (.int .u64 (dgl y 1 : Nat))).setCell ⟨w.heap.size + 2, 1, none⟩ (.int .u64 (dgl y 0 : Nat))) := by
  have h0 := h.n0
  have h1 := h.n1
  have h2 := h.n2
  have hr0 := h.r.h
  have hr1 := h.r.l
  have hrl := h.r.lt
  have hb := ((Below.refl (w.heap.size + 2) W).setCell (p := ⟨w.heap.size + 2, 0, none⟩) (Nat.le_refl _) (.int .u64 (dgl y 1 : Nat))).setCell (p := ⟨w.heap.size + 2, 1, none⟩) (Nat.le_refl _) (.int .u64 (dgl y 0 : Nat))
  exact ⟨h.bg, (hb.cell (p := ⟨w.heap.size, 0, none⟩) (show w.heap.size < _ by omega)).trans h0, (hb.cell (p := ⟨w.heap.size, 1, none⟩) (show w.heap.size < _ by omega)).trans h1, (hb.cell (p := ⟨w.heap.size, 2, none⟩) (show w.heap.size < _ by omega)).trans h2,
    ⟨(hb.cell (p := ⟨w.heap.size + 1, 0, none⟩) (show w.heap.size + 1 < _ by omega)).trans hr0, (hb.cell (p := ⟨w.heap.size + 1, 1, none⟩) (show w.heap.size + 1 < _ by omega)).trans hr1, Nat.lt_of_lt_of_le hrl hb.size⟩, fun i => (hb.frozen (p := ⟨w.heap.size + 1, i, none⟩) (show w.heap.size + 1 < _ by omega)).trans (h.fr i),
    wb_set h.o, fun i => by simpa [go_sem] using h.fo i, h.bel.trans (hb.mono (by omega))⟩
end
theorem wb_new2 (w : World) (x y : Nat) (e : TypeId) : WB (w.alloc (.cells #[.int .u64 (x : Nat), .int .u64 (y : Nat)] e)) w.heap.size x y :=
  ⟨by simp [go_sem], by simp [go_sem], by simp⟩
theorem fdSt_start (neg : Bool) (z : Int) (s : Nat) (ao : Option Addr) (l ca : Nat) (w : World) (hb : BigV w (.slice ao l ca) s 40) (e1 e2 e3 : TypeId) :
    FdSt neg z s ao l ca 0 w (((w.alloc (.cells #[.bool neg, .slice ao l ca, .int .i64 z] e1)).alloc (.cells #[.int .u64 0, .int .u64 0] e2)).alloc (.cells #[.int .u64 0, .int .u64 0] e3)) := by
  have h2 := wb_new ((w.alloc (.cells #[.bool neg, .slice ao l ca, .int .i64 z] e1)).alloc (.cells #[.int .u64 0, .int .u64 0] e2)) e3
  rw [World.size_alloc, World.size_alloc] at h2
  exact ⟨hb, by simp [go_sem], by simp [go_sem], by simp [go_sem], ⟨by simp [go_sem], by simp [go_sem], by simp⟩, fun i => by simp [go_sem], by rw [dgl_zero, dgl_zero]; exact h2, fun i => by simp [go_sem], below_trans (below_trans (below_allocs _ _) (below_allocs _ _)) (below_allocs _ _)⟩
theorem find_y {k M x : Nat} {p : Nat → Bool} (h : FInv p M (k + 1) x) (hk : k + 1 ≤ M) (hM : M ≤ 127) : x < 2 ^ 128 ∧ x + 2 ^ k < 2 ^ 128 := by
  have h1 := finv_fit h hk
  have h2 : 2 ^ M ≤ 2 ^ 127 := Nat.pow_le_pow_right (by decide) hM
  have h3 := h.2.1
  omega
theorem add_bit {a e : Nat} {b : Nat} (he : e < 64) (h : b = a + 2 ^ e) (hb : b < 18446744073709551616) : IntKind.u64.wrap ((a : Int) + (2 : Int) ^ e) = ((b : Nat) : Int) := by
  rw [pow_int]
  rw [IntKind.wrap_u64]
  omega
theorem sz_bd (f : Int) (a : Nat) : -100000000 ≤ expU f a ∧ expU f a ≤ 100000000 := by
  have h1 := loU_bd f
  have h2 := fldU_le f a
  unfold expU
  split <;> omega
theorem wb_seth {W : World} {p : Nat} {x y : Nat} (h : WB W p (dgl x 1) (dgl x 0)) (ho : dgl y 0 = dgl x 0) : WB (W.setCell ⟨p, 0, none⟩ (.int .u64 (dgl y 1 : Nat))) p (dgl y 1) (dgl y 0) := by
  have h1 := h.h
  have h2 := h.l
  have h3 := h.lt
  exact ⟨by simp [go_sem, h1], by simp [go_sem, h2, ho], by simpa [go_sem] using h3⟩
theorem wb_setl {W : World} {p : Nat} {x y : Nat} (h : WB W p (dgl x 1) (dgl x 0)) (ho : dgl y 1 = dgl x 1) : WB (W.setCell ⟨p, 1, none⟩ (.int .u64 (dgl y 0 : Nat))) p (dgl y 1) (dgl y 0) := by
  have h1 := h.h
  have h2 := h.l
  have h3 := h.lt
  exact ⟨by simp [go_sem, h1, ho], by simp [go_sem, h2], by simpa [go_sem] using h3⟩

set_option maxHeartbeats 8000000 in
theorem find_any (f : Int) (hf : 1 ≤ f ∧ f ≤ 4) (neg : Bool) (z : Int) (s X : Nat) (u : Value) (hs : s < QQ) (hz : -100000000 ≤ z ∧ z ≤ 100000000) (hX : FInv (takeB f s z) (mU f) 0 X) (w : World) (hu : NumV w u neg z s 40) :
    Calls Tryd.prog 57 #[.int .i64 f, u] w fun e w' => e = .returned (.agg #[.int .u64 (dgl (X) 1 : Nat), .int .u64 (dgl (X) 0 : Nat)]) ∧ Below w.heap.size w w' := by
  obtain ⟨u, rfl, hu⟩ := hu
  obtain ⟨ao, l, ca, rfl⟩ := hu.slice
  have HS0 := hide (fdSt_start neg z s ao l ca w hu 52 28 28)
  have HXX := hide hX
  have HMO := hide (takeB_mono hf s z)
  have HI0 : Hid (FInv (takeB f s z) (mU f) (mU f) 0) := ⟨Nat.zero_mod _, Nat.two_pow_pos _, HMO.out 0 X (Nat.zero_le _) hX.2.1 hX.2.2.1, fun y h1 h2 => by omega⟩
  have HBT := hide (bits_u f hf)
  have HF := hide hf
  have HS := hide hs
  have HZ := hide hz
  have hm7 := mU_le f
  clear hu hX hs hz hf
  go_enter Tryd.func57, Tryd.ntmps57
  go_wp2_with fail
  refine (HBT.out _).mono ?_
  rintro e wb ⟨rfl, hwb⟩
  subst wb
  have hw0 : IntKind.i64.wrap (((mU f : Nat) : Int) + 1 - 2) = ((mU f : Nat) : Int) - 1 := by rw [IntKind.wrap_i64]; omega
  go_wp2
  go_loopw [6] (fun i wr => ∃ (x c : Nat) (zi : Int), c ≤ mU f ∧ Hid (zi = (c : Int) - 1) ∧ i = .int .i64 zi ∧ Hid (FInv (takeB f s z) (mU f) c x) ∧ Hid (FdSt neg z s ao l ca x w wr))
    (fun i _ => (intOf i + 1).toNat)
  case atStart => exact ⟨0, mU f, _, Nat.le_refl _, hide rfl, rfl, HI0, HS0⟩
  case round =>
    obtain ⟨x, c, zi, hc, hzi, rfl, HI, hst⟩ := hrel
    by_cases hz0 : 0 ≤ zi
    · obtain ⟨k, rfl⟩ : ∃ k : Nat, zi = (k : Int) := ⟨zi.toNat, by omega⟩
      obtain rfl : c = k + 1 := by have := hzi.out; omega
      have hk : k + 1 ≤ mU f := hc
      clear hzi hc HI0
      have hy := find_y HI.out hk (mU_le f)
      have hk7 : k < 127 := by have := mU_le f; omega
      have HX := hide hy.1
      obtain ⟨y, hye⟩ : ∃ y, x + 2 ^ k = y := ⟨_, rfl⟩
      have HY := hide (show y < 2 ^ 128 by rw [← hye]; exact hy.2)
      have HYE := hide hye
      clear hy hye
      have r0 := hst.out.o.h
      have r1 := hst.out.o.l
      have rl := hst.out.o.lt
      by_cases h64 : (64 : Int) ≤ (k : Int)
      · go_upto_region 7 with fail
        refine wp_gen (fun W => FdSt neg z s ao l ca (x) w W ∧ WB W wr.heap.size (dgl x 1) (dgl x 0) ∧ ∀ i, W.frozen? ⟨wr.heap.size, i, none⟩ = false) ⟨hst.out.below (below_allocs _ _), wb_new2 _ _ _ _, fun i => by simp [go_sem]⟩ ?_
        have HP7 := hide (show w.heap.size + 2 + 1 ≤ wr.heap.size by omega)
        clear hst r0 r1 rl HS0
        generalize wr.heap.size = p7 at *
        rintro W7 h7
        obtain ⟨e, he⟩ : ∃ e : Nat, k = e + 64 := ⟨k - 64, by omega⟩
        have HE := hide he
        have he6 : e < 64 := by omega
        have HB := hide (bitW_high (c := k) (x := x) (by omega) (by rw [HYE.out]; exact HY.out))
        rw [HYE.out, show k - 64 = e by omega] at HB
        clear he
        have HSH := hide (shl_wrap7 (e := e) he6)
        have HAD := hide (add_bit (a := dgl x 1) (e := e) (b := dgl y 1) he6 HB.out.1 (dgl_lt _ _))
        have HOT := hide HB.out.2
        clear HB
        refine wp_region_grow 7 [(19, .val (.pointer (some ⟨p7, 0, none⟩))), (20, .val (.int .u64 (dgl x 1 : Nat))), (21, .val (.int .i64 (k : Int))), (22, .val (.int .i64 ((e : Nat) : Int))), (23, .val (.int .u64 ((2 : Int) ^ e))), (24, .val (.int .u64 (dgl y 1 : Nat))), (25, .val (.pointer (some ⟨p7, 0, none⟩)))]
          (fun W => FdSt neg z s ao l ca (x) w W ∧ WB W p7 (dgl x 1) (dgl x 0) ∧ ∀ i, W.frozen? ⟨p7, i, none⟩ = false) mixedOk (by kernel_rfl) (by kernel_rfl) (⟨h7.1.below (Below.refl _ _).drew, h7.2.1.below (Below.refl _ _).drew, fun i => ((Below.refl _ _).drew.frozen (p := ⟨p7, i, none⟩) h7.2.1.lt).trans (h7.2.2 i)⟩) (fun W W' h hb => ⟨h.1.below hb, h.2.1.below hb, fun i => (hb.frozen (p := ⟨p7, i, none⟩) h.2.1.lt).trans (h.2.2 i)⟩) ?_ ?_
        · refine gSt (gStep_run rfl ?_) ?_
          · intro ρ W hC hc hf hL
            have e7 : ρ (.tmp 7) = .pointer (some ⟨p7, 0, none⟩) := hL 7 (by decide +kernel)
            simp [go_sem, hc, hf, e7]
            exact ⟨Below.refl _ _, rfl⟩
          refine gSt (gStep_run rfl ?_) ?_
          · intro ρ W hC hc hf hL
            have e19 : ρ (.tmp 19) = .pointer (some ⟨p7, 0, none⟩) := hL 19 (by decide +kernel)
            have l0 := hC.2.1.h
            simp [go_sem, hc, hf, e19, l0]
            exact ⟨Below.refl _ _, rfl⟩
          refine gSt (gStep_run rfl (gRun_move 6 21 (.inl rfl) rfl (by decide +kernel) (fun v w h => h))) ?_
          refine gSt (gStep_run rfl ?_) ?_
          · intro ρ W hC hc hf hL
            have e21 : ρ (.tmp 21) = .int .i64 (k : Int) := hL 21 (by decide +kernel)
            have l0 : IntKind.i64.wrap ((k : Int) - 64) = (e : Int) := by rw [IntKind.wrap_i64]; have := HE.out; omega
            simp [go_sem, hc, hf, e21, l0]
            exact ⟨Below.refl _ _, rfl⟩
          refine gSt (gStep_run rfl ?_) ?_
          · intro ρ W hC hc hf hL
            have e22 : ρ (.tmp 22) = .int .i64 ((e : Nat) : Int) := hL 22 (by decide +kernel)
            have l0 := HSH.out
            have h0 : (0 : Int) ≤ (e : Int) := by omega
            have h6 : (e : Int) < 64 := by omega
            simp [go_sem, hc, hf, e22, l0, h0, h6]
            exact ⟨Below.refl _ _, rfl⟩
          refine gSt (gStep_run rfl ?_) ?_
          · intro ρ W hC hc hf hL
            have e20 : ρ (.tmp 20) = .int .u64 (dgl x 1 : Nat) := hL 20 (by decide +kernel)
            have e23 : ρ (.tmp 23) = .int .u64 ((2 : Int) ^ e) := hL 23 (by decide +kernel)
            have l0 := HAD.out
            simp [go_sem, hc, hf, e20, e23, l0]
            exact ⟨Below.refl _ _, rfl⟩
          refine gSt (gStep_run rfl ?_) ?_
          · intro ρ W hC hc hf hL
            have e7 : ρ (.tmp 7) = .pointer (some ⟨p7, 0, none⟩) := hL 7 (by decide +kernel)
            simp [go_sem, hc, hf, e7]
            exact ⟨Below.refl _ _, rfl⟩
          exact gSt0
        · intro W hC
          refine gFi 19 rfl ?_
          rintro _ rfl
          refine gFi 20 rfl ?_
          rintro _ rfl
          refine gFi 21 rfl ?_
          rintro _ rfl
          refine gFi 22 rfl ?_
          rintro _ rfl
          refine gFi 23 rfl ?_
          rintro _ rfl
          refine gFi 24 rfl ?_
          rintro _ rfl
          refine gFi 25 rfl ?_
          rintro _ rfl
          refine gFi0 ?_
          simp only [List.drop_succ_cons, List.drop_zero, Act.put, List.setIfInBounds_toArray, List.set_cons_succ, List.set_cons_zero]
          have l0 := hC.2.1.h
          have hf7 := hC.2.2
          have hl7 := hC.2.1.lt
          have HS2 := hide (show FdSt neg z s ao l ca (x) w (W.setCell ⟨p7, 0, none⟩ (.int .u64 (dgl y 1 : Nat))) ∧ WB (W.setCell ⟨p7, 0, none⟩ (.int .u64 (dgl y 1 : Nat))) p7 (dgl y 1) (dgl y 0) from
            ⟨hC.1.under ((Below.refl (w.heap.size + 2 + 1) W).setCell (p := ⟨p7, 0, none⟩) HP7.out _) (by omega), wb_seth hC.2.1 HOT.out⟩)
          clear hC h7
          go_upto_region 9 with fail
          refine wp_gen (fun W => FdSt neg z s ao l ca (x) w W ∧ WB W p7 (dgl y 1) (dgl y 0)) HS2.out ?_
          clear HS2 l0 hf7 hl7
          rintro W9 h9
          have HCL := hide (fun w => refCls_u f y HY.out w)
          by_cases hc4 : 4 ≤ clsU f y
          · have HVA := hide (fun w => rval_any f y HY.out (by omega) w)
            have HOF := hide (fun w => refOf7_any (negU f y) (expU f y) (sigU f y) (sigU_qq f y HF.out) w)
            have HSZ := hide (fun u w hu hv => refSize_any (negU f y) neg (sigU f y) s (expU f y) z u (.agg #[.bool neg, .slice ao l ca, .int .i64 z]) w hu hv (sigU_qq f y HF.out) HS.out (sz_bd f y) HZ.out)
            have hc5 : (4 : Int) ≤ ((clsU f y : Nat) : Int) := by omega
            have HTB := hide (show takeB f s z y = decide (sizeZ (sigU f y) (expU f y) s z ≤ 0) by unfold takeB; rw [decide_eq_true hc4, Bool.true_and])
            have HTK : Hid (takeB f s z y = true → FInv (takeB f s z) (mU f) k y) := fun h => by rw [← HYE.out] at h ⊢; exact finv_take HI.out (by omega) h
            have HLV : Hid (takeB f s z y = false → FInv (takeB f s z) (mU f) k x) := fun h => by rw [← HYE.out] at h; exact finv_leave HI.out HMO.out h
            generalize sizeZ (sigU f y) (expU f y) s z = sz at *
            generalize negU f y = ng at *
            generalize sigU f y = sg at *
            generalize expU f y = ex at *
            generalize clsU f y = cl at *
            by_cases hsz : sz ≤ 0
            · replace HTK := hide (HTK.out (HTB.out.trans (decide_eq_true hsz)))
              have hsz2 : decide (sz ≤ 0) = true := decide_eq_true hsz
              have HPY : Hid (y = y) := rfl
              clear HLV HTB
              refine wp_region_grow 13 [(32, .val (.int .i64 f)), (33, .val (.agg #[.int .u64 (dgl (y) 1 : Nat), .int .u64 (dgl (y) 0 : Nat)])), (34, .val (.int .i64 ((cl : Nat) : Int))), (35, .val (.bool true)), (36, .val (.bool true)), (37, .val (.int .i64 f)), (38, .val (.agg #[.int .u64 (dgl (y) 1 : Nat), .int .u64 (dgl (y) 0 : Nat)])), (39, .val (.agg #[.bool (ng), .int .i64 (ex), .int .u64 (dgl (sg) 0 : Nat), .int .u64 (dgl (sg) 1 : Nat), .int .u64 (dgl (sg) 2 : Nat), .int .u64 (dgl (sg) 3 : Nat), .int .u64 (dgl (sg) 4 : Nat), .int .u64 (dgl (sg) 5 : Nat), .int .u64 (dgl (sg) 6 : Nat), .int .u64 (dgl (sg) 7 : Nat)])), (40, .num ng ex sg 40), (41, .val (.agg #[.bool neg, .slice ao l ca, .int .i64 z])), (42, .val (.int .i64 sz)), (43, .val (.bool true)), (44, .val (.bool true))]
                (fun W => FdSt neg z s ao l ca (x) w W ∧ WB W p7 (dgl y 1) (dgl y 0)) mixedOk (by kernel_rfl) (by kernel_rfl) (⟨h9.1.below (Below.refl _ _).drew, h9.2.below (Below.refl _ _).drew⟩) (fun W W' h hb => ⟨h.1.below hb, h.2.below hb⟩) ?_ ?_
              · refine gSt (gStep_run rfl (gRun_move 0 32 (.inl rfl) rfl (by decide +kernel) (fun v w h => h))) ?_
                refine gSt (gStep_run rfl ?_) ?_
                · intro ρ W hC hc hf hL
                  have e7 : ρ (.tmp 7) = .pointer (some ⟨p7, 0, none⟩) := hL 7 (by decide +kernel)
                  have l0 := hC.2.h
                  have l1 := hC.2.l
                  simp [go_sem, hc, hf, e7, l0, l1]
                  exact ⟨Below.refl _ _, rfl⟩
                refine gSt (gStep_run rfl ?_) ?_
                · intro ρ W hC hc hf hL
                  have e32 : ρ (.tmp 32) = .int .i64 f := hL 32 (by decide +kernel)
                  have e33 : ρ (.tmp 33) = .agg #[.int .u64 (dgl (y) 1 : Nat), .int .u64 (dgl (y) 0 : Nat)] := hL 33 (by decide +kernel)
                  simp [go_sem, hc, hf, e32, e33]
                  refine (HCL.out W).mono ?_
                  rintro e w' ⟨rfl, hb⟩
                  exact ⟨_, rfl, by first | exact hb | (subst hb; exact Below.refl _ _), rfl⟩
                refine gSt (gStep_run rfl ?_) ?_
                · intro ρ W hC hc hf hL
                  have e34 : ρ (.tmp 34) = .int .i64 ((cl : Nat) : Int) := hL 34 (by decide +kernel)
                  simp [go_sem, hc, hf, e34, hc4, hc5]
                  exact ⟨Below.refl _ _, rfl⟩
                refine gSt (gStep_run rfl (gRun_move 35 36 (.inl rfl) rfl (by decide +kernel) (fun v w h => h))) ?_
                refine gSt (gStep_on 4 36 true rfl rfl (by decide +kernel) (fun v w h => h) (gRun_move 0 37 (.inl rfl) rfl (by decide +kernel) (fun v w h => h))) ?_
                refine gSt (gStep_on 4 36 true rfl rfl (by decide +kernel) (fun v w h => h) ?_) ?_
                · intro ρ W hC hc hf hL
                  have e7 : ρ (.tmp 7) = .pointer (some ⟨p7, 0, none⟩) := hL 7 (by decide +kernel)
                  have l0 := hC.2.h
                  have l1 := hC.2.l
                  simp [go_sem, hc, hf, e7, l0, l1]
                  exact ⟨Below.refl _ _, rfl⟩
                refine gSt (gStep_on 4 36 true rfl rfl (by decide +kernel) (fun v w h => h) ?_) ?_
                · intro ρ W hC hc hf hL
                  have e37 : ρ (.tmp 37) = .int .i64 f := hL 37 (by decide +kernel)
                  have e38 : ρ (.tmp 38) = .agg #[.int .u64 (dgl (y) 1 : Nat), .int .u64 (dgl (y) 0 : Nat)] := hL 38 (by decide +kernel)
                  simp [go_sem, hc, hf, e37, e38]
                  refine (HVA.out W).mono ?_
                  rintro e w' ⟨rfl, hb⟩
                  exact ⟨_, rfl, by first | exact hb | (subst hb; exact Below.refl _ _), rfl⟩
                refine gSt (gStep_on 4 36 true rfl rfl (by decide +kernel) (fun v w h => h) ?_) ?_
                · intro ρ W hC hc hf hL
                  have e39 : ρ (.tmp 39) = .agg #[.bool (ng), .int .i64 (ex), .int .u64 (dgl (sg) 0 : Nat), .int .u64 (dgl (sg) 1 : Nat), .int .u64 (dgl (sg) 2 : Nat), .int .u64 (dgl (sg) 3 : Nat), .int .u64 (dgl (sg) 4 : Nat), .int .u64 (dgl (sg) 5 : Nat), .int .u64 (dgl (sg) 6 : Nat), .int .u64 (dgl (sg) 7 : Nat)] := hL 39 (by decide +kernel)
                  simp [go_sem, hc, hf, e39]
                  refine (HOF.out W).mono ?_
                  rintro e w' ⟨v, rfl, hv, hb⟩
                  exact ⟨_, rfl, hb, hv⟩
                refine gSt (gStep_on 4 36 true rfl rfl (by decide +kernel) (fun v w h => h) ?_) ?_
                · intro ρ W hC hc hf hL
                  have e3 : ρ (.tmp 3) = .pointer (some ⟨w.heap.size, 0, none⟩) := hL 3 (by decide +kernel)
                  have l0 := hC.1.n0
                  have l1 := hC.1.n1
                  have l2 := hC.1.n2
                  simp [go_sem, hc, hf, e3, l0, l1, l2]
                  exact ⟨Below.refl _ _, rfl⟩
                refine gSt (gStep_on 4 36 true rfl rfl (by decide +kernel) (fun v w h => h) ?_) ?_
                · intro ρ W hC hc hf hL
                  have b40 := hL 40 (by decide +kernel)
                  have e41 : ρ (.tmp 41) = .agg #[.bool neg, .slice ao l ca, .int .i64 z] := hL 41 (by decide +kernel)
                  simp [go_sem, hc, hf, e41]
                  refine (HSZ.out _ W b40 hC.1.num).mono ?_
                  rintro e w' ⟨rfl, hb⟩
                  exact ⟨_, rfl, by first | exact hb | (subst hb; exact Below.refl _ _), rfl⟩
                refine gSt (gStep_on 4 36 true rfl rfl (by decide +kernel) (fun v w h => h) ?_) ?_
                · intro ρ W hC hc hf hL
                  have e42 : ρ (.tmp 42) = .int .i64 sz := hL 42 (by decide +kernel)
                  simp [go_sem, hc, hf, e42, hsz, hsz2]
                  exact ⟨Below.refl _ _, rfl⟩
                refine gSt (gStep_run rfl (gRun_pickT 36 43 44 _ rfl rfl (by decide +kernel) (by decide +kernel) (fun v w h => h) (fun v w h => h))) ?_
                exact gSt0
              · intro W hC
                refine gFi 32 rfl ?_
                rintro _ rfl
                refine gFi 33 rfl ?_
                rintro _ rfl
                refine gFi 34 rfl ?_
                rintro _ rfl
                refine gFi 35 rfl ?_
                rintro _ rfl
                refine gFi 36 rfl ?_
                rintro _ rfl
                refine gFi 37 rfl ?_
                rintro _ rfl
                refine gFi 38 rfl ?_
                rintro _ rfl
                refine gFi 39 rfl ?_
                rintro _ rfl
                refine gFi 40 rfl ?_
                rintro u40 b40
                refine gFi 41 rfl ?_
                rintro _ rfl
                refine gFi 42 rfl ?_
                rintro _ rfl
                refine gFi 43 rfl ?_
                rintro _ rfl
                refine gFi 44 rfl ?_
                rintro _ rfl
                refine gFi0 ?_
                simp only [List.drop_succ_cons, List.drop_zero, Act.put, List.setIfInBounds_toArray, List.set_cons_succ, List.set_cons_zero]
                have l0 := hC.2.h
                have l1 := hC.2.l
                have r0 := hC.1.o.h
                have r1 := hC.1.o.l
                have rf := hC.1.fo
                have rl := hC.1.o.lt
                have HS3 := hide hC.1
                clear hC h9
                have hw : IntKind.i64.wrap ((k : Int) - 1) = (k : Int) - 1 := by rw [IntKind.wrap_i64]; omega
                go_wp2
                go_roundw
                case rel => exact ⟨y, k, (k : Int) - 1, by omega, hide rfl, rfl, hide (HTK.out), by rw [HPY.out]; exact HS3.out.set y⟩
                case measure => first | (simp [intOf]; done) | (simp [intOf]; omega)
            · replace HLV := hide (HLV.out (HTB.out.trans (decide_eq_false hsz)))
              have hsz2 : decide (sz ≤ 0) = false := decide_eq_false hsz
              clear HTK HTB
              refine wp_region_grow 13 [(32, .val (.int .i64 f)), (33, .val (.agg #[.int .u64 (dgl (y) 1 : Nat), .int .u64 (dgl (y) 0 : Nat)])), (34, .val (.int .i64 ((cl : Nat) : Int))), (35, .val (.bool true)), (36, .val (.bool true)), (37, .val (.int .i64 f)), (38, .val (.agg #[.int .u64 (dgl (y) 1 : Nat), .int .u64 (dgl (y) 0 : Nat)])), (39, .val (.agg #[.bool (ng), .int .i64 (ex), .int .u64 (dgl (sg) 0 : Nat), .int .u64 (dgl (sg) 1 : Nat), .int .u64 (dgl (sg) 2 : Nat), .int .u64 (dgl (sg) 3 : Nat), .int .u64 (dgl (sg) 4 : Nat), .int .u64 (dgl (sg) 5 : Nat), .int .u64 (dgl (sg) 6 : Nat), .int .u64 (dgl (sg) 7 : Nat)])), (40, .num ng ex sg 40), (41, .val (.agg #[.bool neg, .slice ao l ca, .int .i64 z])), (42, .val (.int .i64 sz)), (43, .val (.bool false)), (44, .val (.bool false))]
                (fun W => FdSt neg z s ao l ca (x) w W ∧ WB W p7 (dgl y 1) (dgl y 0)) mixedOk (by kernel_rfl) (by kernel_rfl) (⟨h9.1.below (Below.refl _ _).drew, h9.2.below (Below.refl _ _).drew⟩) (fun W W' h hb => ⟨h.1.below hb, h.2.below hb⟩) ?_ ?_
              · refine gSt (gStep_run rfl (gRun_move 0 32 (.inl rfl) rfl (by decide +kernel) (fun v w h => h))) ?_
                refine gSt (gStep_run rfl ?_) ?_
                · intro ρ W hC hc hf hL
                  have e7 : ρ (.tmp 7) = .pointer (some ⟨p7, 0, none⟩) := hL 7 (by decide +kernel)
                  have l0 := hC.2.h
                  have l1 := hC.2.l
                  simp [go_sem, hc, hf, e7, l0, l1]
                  exact ⟨Below.refl _ _, rfl⟩
                refine gSt (gStep_run rfl ?_) ?_
                · intro ρ W hC hc hf hL
                  have e32 : ρ (.tmp 32) = .int .i64 f := hL 32 (by decide +kernel)
                  have e33 : ρ (.tmp 33) = .agg #[.int .u64 (dgl (y) 1 : Nat), .int .u64 (dgl (y) 0 : Nat)] := hL 33 (by decide +kernel)
                  simp [go_sem, hc, hf, e32, e33]
                  refine (HCL.out W).mono ?_
                  rintro e w' ⟨rfl, hb⟩
                  exact ⟨_, rfl, by first | exact hb | (subst hb; exact Below.refl _ _), rfl⟩
                refine gSt (gStep_run rfl ?_) ?_
                · intro ρ W hC hc hf hL
                  have e34 : ρ (.tmp 34) = .int .i64 ((cl : Nat) : Int) := hL 34 (by decide +kernel)
                  simp [go_sem, hc, hf, e34, hc4, hc5]
                  exact ⟨Below.refl _ _, rfl⟩
                refine gSt (gStep_run rfl (gRun_move 35 36 (.inl rfl) rfl (by decide +kernel) (fun v w h => h))) ?_
                refine gSt (gStep_on 4 36 true rfl rfl (by decide +kernel) (fun v w h => h) (gRun_move 0 37 (.inl rfl) rfl (by decide +kernel) (fun v w h => h))) ?_
                refine gSt (gStep_on 4 36 true rfl rfl (by decide +kernel) (fun v w h => h) ?_) ?_
                · intro ρ W hC hc hf hL
                  have e7 : ρ (.tmp 7) = .pointer (some ⟨p7, 0, none⟩) := hL 7 (by decide +kernel)
                  have l0 := hC.2.h
                  have l1 := hC.2.l
                  simp [go_sem, hc, hf, e7, l0, l1]
                  exact ⟨Below.refl _ _, rfl⟩
                refine gSt (gStep_on 4 36 true rfl rfl (by decide +kernel) (fun v w h => h) ?_) ?_
                · intro ρ W hC hc hf hL
                  have e37 : ρ (.tmp 37) = .int .i64 f := hL 37 (by decide +kernel)
                  have e38 : ρ (.tmp 38) = .agg #[.int .u64 (dgl (y) 1 : Nat), .int .u64 (dgl (y) 0 : Nat)] := hL 38 (by decide +kernel)
                  simp [go_sem, hc, hf, e37, e38]
                  refine (HVA.out W).mono ?_
                  rintro e w' ⟨rfl, hb⟩
                  exact ⟨_, rfl, by first | exact hb | (subst hb; exact Below.refl _ _), rfl⟩
                refine gSt (gStep_on 4 36 true rfl rfl (by decide +kernel) (fun v w h => h) ?_) ?_
                · intro ρ W hC hc hf hL
                  have e39 : ρ (.tmp 39) = .agg #[.bool (ng), .int .i64 (ex), .int .u64 (dgl (sg) 0 : Nat), .int .u64 (dgl (sg) 1 : Nat), .int .u64 (dgl (sg) 2 : Nat), .int .u64 (dgl (sg) 3 : Nat), .int .u64 (dgl (sg) 4 : Nat), .int .u64 (dgl (sg) 5 : Nat), .int .u64 (dgl (sg) 6 : Nat), .int .u64 (dgl (sg) 7 : Nat)] := hL 39 (by decide +kernel)
                  simp [go_sem, hc, hf, e39]
                  refine (HOF.out W).mono ?_
                  rintro e w' ⟨v, rfl, hv, hb⟩
                  exact ⟨_, rfl, hb, hv⟩
                refine gSt (gStep_on 4 36 true rfl rfl (by decide +kernel) (fun v w h => h) ?_) ?_
                · intro ρ W hC hc hf hL
                  have e3 : ρ (.tmp 3) = .pointer (some ⟨w.heap.size, 0, none⟩) := hL 3 (by decide +kernel)
                  have l0 := hC.1.n0
                  have l1 := hC.1.n1
                  have l2 := hC.1.n2
                  simp [go_sem, hc, hf, e3, l0, l1, l2]
                  exact ⟨Below.refl _ _, rfl⟩
                refine gSt (gStep_on 4 36 true rfl rfl (by decide +kernel) (fun v w h => h) ?_) ?_
                · intro ρ W hC hc hf hL
                  have b40 := hL 40 (by decide +kernel)
                  have e41 : ρ (.tmp 41) = .agg #[.bool neg, .slice ao l ca, .int .i64 z] := hL 41 (by decide +kernel)
                  simp [go_sem, hc, hf, e41]
                  refine (HSZ.out _ W b40 hC.1.num).mono ?_
                  rintro e w' ⟨rfl, hb⟩
                  exact ⟨_, rfl, by first | exact hb | (subst hb; exact Below.refl _ _), rfl⟩
                refine gSt (gStep_on 4 36 true rfl rfl (by decide +kernel) (fun v w h => h) ?_) ?_
                · intro ρ W hC hc hf hL
                  have e42 : ρ (.tmp 42) = .int .i64 sz := hL 42 (by decide +kernel)
                  simp [go_sem, hc, hf, e42, hsz, hsz2]
                  exact ⟨Below.refl _ _, rfl⟩
                refine gSt (gStep_run rfl (gRun_pickT 36 43 44 _ rfl rfl (by decide +kernel) (by decide +kernel) (fun v w h => h) (fun v w h => h))) ?_
                exact gSt0
              · intro W hC
                refine gFi 32 rfl ?_
                rintro _ rfl
                refine gFi 33 rfl ?_
                rintro _ rfl
                refine gFi 34 rfl ?_
                rintro _ rfl
                refine gFi 35 rfl ?_
                rintro _ rfl
                refine gFi 36 rfl ?_
                rintro _ rfl
                refine gFi 37 rfl ?_
                rintro _ rfl
                refine gFi 38 rfl ?_
                rintro _ rfl
                refine gFi 39 rfl ?_
                rintro _ rfl
                refine gFi 40 rfl ?_
                rintro u40 b40
                refine gFi 41 rfl ?_
                rintro _ rfl
                refine gFi 42 rfl ?_
                rintro _ rfl
                refine gFi 43 rfl ?_
                rintro _ rfl
                refine gFi 44 rfl ?_
                rintro _ rfl
                refine gFi0 ?_
                simp only [List.drop_succ_cons, List.drop_zero, Act.put, List.setIfInBounds_toArray, List.set_cons_succ, List.set_cons_zero]
                have HS3 := hide hC.1
                clear hC h9
                have hw : IntKind.i64.wrap ((k : Int) - 1) = (k : Int) - 1 := by rw [IntKind.wrap_i64]; omega
                go_wp2
                go_roundw
                case rel => exact ⟨x, k, (k : Int) - 1, by omega, hide rfl, rfl, hide (HLV.out), HS3⟩
                case measure => first | (simp [intOf]; done) | (simp [intOf]; omega)
          · have HLV : Hid (FInv (takeB f s z) (mU f) k x) := by
              unfold Hid
              refine finv_leave HI.out HMO.out ?_
              rw [HYE.out]
              unfold takeB
              rw [decide_eq_false hc4, Bool.false_and]
            have hc5 : decide (4 ≤ clsU f y) = false := decide_eq_false hc4
            have hc6 : decide ((4 : Int) ≤ ((clsU f y : Nat) : Int)) = false := decide_eq_false (by omega)
            generalize clsU f y = cl at *
            refine wp_region_grow 13 [(32, .val (.int .i64 f)), (33, .val (.agg #[.int .u64 (dgl (y) 1 : Nat), .int .u64 (dgl (y) 0 : Nat)])), (34, .val (.int .i64 ((cl : Nat) : Int))), (35, .val (.bool false)), (36, .val (.bool false)), (37, .val (undef)), (38, .val (undef)), (39, .val (undef)), (40, .val (undef)), (41, .val (undef)), (42, .val (undef)), (43, .val (undef)), (44, .val (.bool false))]
              (fun W => FdSt neg z s ao l ca (x) w W ∧ WB W p7 (dgl y 1) (dgl y 0)) mixedOk (by kernel_rfl) (by kernel_rfl) (⟨h9.1.below (Below.refl _ _).drew, h9.2.below (Below.refl _ _).drew⟩) (fun W W' h hb => ⟨h.1.below hb, h.2.below hb⟩) ?_ ?_
            · refine gSt (gStep_run rfl (gRun_move 0 32 (.inl rfl) rfl (by decide +kernel) (fun v w h => h))) ?_
              refine gSt (gStep_run rfl ?_) ?_
              · intro ρ W hC hc hf hL
                have e7 : ρ (.tmp 7) = .pointer (some ⟨p7, 0, none⟩) := hL 7 (by decide +kernel)
                have l0 := hC.2.h
                have l1 := hC.2.l
                simp [go_sem, hc, hf, e7, l0, l1]
                exact ⟨Below.refl _ _, rfl⟩
              refine gSt (gStep_run rfl ?_) ?_
              · intro ρ W hC hc hf hL
                have e32 : ρ (.tmp 32) = .int .i64 f := hL 32 (by decide +kernel)
                have e33 : ρ (.tmp 33) = .agg #[.int .u64 (dgl (y) 1 : Nat), .int .u64 (dgl (y) 0 : Nat)] := hL 33 (by decide +kernel)
                simp [go_sem, hc, hf, e32, e33]
                refine (HCL.out W).mono ?_
                rintro e w' ⟨rfl, hb⟩
                exact ⟨_, rfl, by first | exact hb | (subst hb; exact Below.refl _ _), rfl⟩
              refine gSt (gStep_run rfl ?_) ?_
              · intro ρ W hC hc hf hL
                have e34 : ρ (.tmp 34) = .int .i64 ((cl : Nat) : Int) := hL 34 (by decide +kernel)
                simp [go_sem, hc, hf, e34, hc5, hc6]
                exact ⟨Below.refl _ _, rfl⟩
              refine gSt (gStep_run rfl (gRun_move 35 36 (.inl rfl) rfl (by decide +kernel) (fun v w h => h))) ?_
              refine gSt (gStep_off 4 36 true rfl rfl (by decide +kernel) (fun v w h => h) (fun w => rfl)) ?_
              refine gSt (gStep_off 4 36 true rfl rfl (by decide +kernel) (fun v w h => h) (fun w => rfl)) ?_
              refine gSt (gStep_off 4 36 true rfl rfl (by decide +kernel) (fun v w h => h) (fun w => rfl)) ?_
              refine gSt (gStep_off 4 36 true rfl rfl (by decide +kernel) (fun v w h => h) (fun w => rfl)) ?_
              refine gSt (gStep_off 4 36 true rfl rfl (by decide +kernel) (fun v w h => h) (fun w => rfl)) ?_
              refine gSt (gStep_off 4 36 true rfl rfl (by decide +kernel) (fun v w h => h) (fun w => rfl)) ?_
              refine gSt (gStep_off 4 36 true rfl rfl (by decide +kernel) (fun v w h => h) (fun w => rfl)) ?_
              refine gSt (gStep_run rfl (gRun_pickF 36 44 _ _ rfl rfl (by decide +kernel) (fun v w h => h) (fun w => rfl))) ?_
              exact gSt0
            · intro W hC
              refine gFi 32 rfl ?_
              rintro _ rfl
              refine gFi 33 rfl ?_
              rintro _ rfl
              refine gFi 34 rfl ?_
              rintro _ rfl
              refine gFi 35 rfl ?_
              rintro _ rfl
              refine gFi 36 rfl ?_
              rintro _ rfl
              refine gFi 37 rfl ?_
              rintro _ rfl
              refine gFi 38 rfl ?_
              rintro _ rfl
              refine gFi 39 rfl ?_
              rintro _ rfl
              refine gFi 40 rfl ?_
              rintro _ rfl
              refine gFi 41 rfl ?_
              rintro _ rfl
              refine gFi 42 rfl ?_
              rintro _ rfl
              refine gFi 43 rfl ?_
              rintro _ rfl
              refine gFi 44 rfl ?_
              rintro _ rfl
              refine gFi0 ?_
              simp only [List.drop_succ_cons, List.drop_zero, Act.put, List.setIfInBounds_toArray, List.set_cons_succ, List.set_cons_zero]
              have HS3 := hide hC.1
              clear hC h9
              have hw : IntKind.i64.wrap ((k : Int) - 1) = (k : Int) - 1 := by rw [IntKind.wrap_i64]; omega
              go_wp2
              go_roundw
              case rel => exact ⟨x, k, (k : Int) - 1, by omega, hide rfl, rfl, hide (HLV.out), HS3⟩
              case measure => first | (simp [intOf]; done) | (simp [intOf]; omega)
      · go_upto_region 8 with fail
        refine wp_gen (fun W => FdSt neg z s ao l ca (x) w W ∧ WB W wr.heap.size (dgl x 1) (dgl x 0) ∧ ∀ i, W.frozen? ⟨wr.heap.size, i, none⟩ = false) ⟨hst.out.below (below_allocs _ _), wb_new2 _ _ _ _, fun i => by simp [go_sem]⟩ ?_
        have HP7 := hide (show w.heap.size + 2 + 1 ≤ wr.heap.size by omega)
        clear hst r0 r1 rl HS0
        generalize wr.heap.size = p7 at *
        rintro W7 h7
        have HB := hide (bitW_low (c := k) (x := x) (by omega) HI.out.1)
        rw [HYE.out] at HB
        have HSH := hide (shl_wrap7 (e := k) (by omega))
        have HAD := hide (add_bit (a := dgl x 0) (e := k) (b := dgl y 0) (by omega) HB.out.1 (dgl_lt _ _))
        have HOT := hide HB.out.2
        clear HB
        refine wp_region_grow 6 [(26, .val (.pointer (some ⟨p7, 1, none⟩))), (27, .val (.int .u64 (dgl x 0 : Nat))), (28, .val (.int .i64 ((k : Nat) : Int))), (29, .val (.int .u64 ((2 : Int) ^ k))), (30, .val (.int .u64 (dgl y 0 : Nat))), (31, .val (.pointer (some ⟨p7, 1, none⟩)))]
          (fun W => FdSt neg z s ao l ca (x) w W ∧ WB W p7 (dgl x 1) (dgl x 0) ∧ ∀ i, W.frozen? ⟨p7, i, none⟩ = false) mixedOk (by kernel_rfl) (by kernel_rfl) (⟨h7.1.below (Below.refl _ _).drew, h7.2.1.below (Below.refl _ _).drew, fun i => ((Below.refl _ _).drew.frozen (p := ⟨p7, i, none⟩) h7.2.1.lt).trans (h7.2.2 i)⟩) (fun W W' h hb => ⟨h.1.below hb, h.2.1.below hb, fun i => (hb.frozen (p := ⟨p7, i, none⟩) h.2.1.lt).trans (h.2.2 i)⟩) ?_ ?_
        · refine gSt (gStep_run rfl ?_) ?_
          · intro ρ W hC hc hf hL
            have e7 : ρ (.tmp 7) = .pointer (some ⟨p7, 0, none⟩) := hL 7 (by decide +kernel)
            simp [go_sem, hc, hf, e7]
            exact ⟨Below.refl _ _, rfl⟩
          refine gSt (gStep_run rfl ?_) ?_
          · intro ρ W hC hc hf hL
            have e26 : ρ (.tmp 26) = .pointer (some ⟨p7, 1, none⟩) := hL 26 (by decide +kernel)
            have l0 := hC.2.1.l
            simp [go_sem, hc, hf, e26, l0]
            exact ⟨Below.refl _ _, rfl⟩
          refine gSt (gStep_run rfl (gRun_move 6 28 (.inl rfl) rfl (by decide +kernel) (fun v w h => h))) ?_
          refine gSt (gStep_run rfl ?_) ?_
          · intro ρ W hC hc hf hL
            have e28 : ρ (.tmp 28) = .int .i64 ((k : Nat) : Int) := hL 28 (by decide +kernel)
            have l0 := HSH.out
            have h0 : (0 : Int) ≤ (k : Int) := by omega
            have h6 : (k : Int) < 64 := by omega
            simp [go_sem, hc, hf, e28, l0, h0, h6]
            exact ⟨Below.refl _ _, rfl⟩
          refine gSt (gStep_run rfl ?_) ?_
          · intro ρ W hC hc hf hL
            have e27 : ρ (.tmp 27) = .int .u64 (dgl x 0 : Nat) := hL 27 (by decide +kernel)
            have e29 : ρ (.tmp 29) = .int .u64 ((2 : Int) ^ k) := hL 29 (by decide +kernel)
            have l0 := HAD.out
            simp [go_sem, hc, hf, e27, e29, l0]
            exact ⟨Below.refl _ _, rfl⟩
          refine gSt (gStep_run rfl ?_) ?_
          · intro ρ W hC hc hf hL
            have e7 : ρ (.tmp 7) = .pointer (some ⟨p7, 0, none⟩) := hL 7 (by decide +kernel)
            simp [go_sem, hc, hf, e7]
            exact ⟨Below.refl _ _, rfl⟩
          exact gSt0
        · intro W hC
          refine gFi 26 rfl ?_
          rintro _ rfl
          refine gFi 27 rfl ?_
          rintro _ rfl
          refine gFi 28 rfl ?_
          rintro _ rfl
          refine gFi 29 rfl ?_
          rintro _ rfl
          refine gFi 30 rfl ?_
          rintro _ rfl
          refine gFi 31 rfl ?_
          rintro _ rfl
          refine gFi0 ?_
          simp only [List.drop_succ_cons, List.drop_zero, Act.put, List.setIfInBounds_toArray, List.set_cons_succ, List.set_cons_zero]
          have l0 := hC.2.1.l
          have hf7 := hC.2.2
          have hl7 := hC.2.1.lt
          have HS2 := hide (show FdSt neg z s ao l ca (x) w (W.setCell ⟨p7, 1, none⟩ (.int .u64 (dgl y 0 : Nat))) ∧ WB (W.setCell ⟨p7, 1, none⟩ (.int .u64 (dgl y 0 : Nat))) p7 (dgl y 1) (dgl y 0) from
            ⟨hC.1.under ((Below.refl (w.heap.size + 2 + 1) W).setCell (p := ⟨p7, 1, none⟩) HP7.out _) (by omega), wb_setl hC.2.1 HOT.out⟩)
          clear hC h7
          go_upto_region 9 with fail
          refine wp_gen (fun W => FdSt neg z s ao l ca (x) w W ∧ WB W p7 (dgl y 1) (dgl y 0)) HS2.out ?_
          clear HS2 l0 hf7 hl7
          rintro W9 h9
          have HCL := hide (fun w => refCls_u f y HY.out w)
          by_cases hc4 : 4 ≤ clsU f y
          · have HVA := hide (fun w => rval_any f y HY.out (by omega) w)
            have HOF := hide (fun w => refOf7_any (negU f y) (expU f y) (sigU f y) (sigU_qq f y HF.out) w)
            have HSZ := hide (fun u w hu hv => refSize_any (negU f y) neg (sigU f y) s (expU f y) z u (.agg #[.bool neg, .slice ao l ca, .int .i64 z]) w hu hv (sigU_qq f y HF.out) HS.out (sz_bd f y) HZ.out)
            have hc5 : (4 : Int) ≤ ((clsU f y : Nat) : Int) := by omega
            have HTB := hide (show takeB f s z y = decide (sizeZ (sigU f y) (expU f y) s z ≤ 0) by unfold takeB; rw [decide_eq_true hc4, Bool.true_and])
            have HTK : Hid (takeB f s z y = true → FInv (takeB f s z) (mU f) k y) := fun h => by rw [← HYE.out] at h ⊢; exact finv_take HI.out (by omega) h
            have HLV : Hid (takeB f s z y = false → FInv (takeB f s z) (mU f) k x) := fun h => by rw [← HYE.out] at h; exact finv_leave HI.out HMO.out h
            generalize sizeZ (sigU f y) (expU f y) s z = sz at *
            generalize negU f y = ng at *
            generalize sigU f y = sg at *
            generalize expU f y = ex at *
            generalize clsU f y = cl at *
            by_cases hsz : sz ≤ 0
            · replace HTK := hide (HTK.out (HTB.out.trans (decide_eq_true hsz)))
              have hsz2 : decide (sz ≤ 0) = true := decide_eq_true hsz
              have HPY : Hid (y = y) := rfl
              clear HLV HTB
              refine wp_region_grow 13 [(32, .val (.int .i64 f)), (33, .val (.agg #[.int .u64 (dgl (y) 1 : Nat), .int .u64 (dgl (y) 0 : Nat)])), (34, .val (.int .i64 ((cl : Nat) : Int))), (35, .val (.bool true)), (36, .val (.bool true)), (37, .val (.int .i64 f)), (38, .val (.agg #[.int .u64 (dgl (y) 1 : Nat), .int .u64 (dgl (y) 0 : Nat)])), (39, .val (.agg #[.bool (ng), .int .i64 (ex), .int .u64 (dgl (sg) 0 : Nat), .int .u64 (dgl (sg) 1 : Nat), .int .u64 (dgl (sg) 2 : Nat), .int .u64 (dgl (sg) 3 : Nat), .int .u64 (dgl (sg) 4 : Nat), .int .u64 (dgl (sg) 5 : Nat), .int .u64 (dgl (sg) 6 : Nat), .int .u64 (dgl (sg) 7 : Nat)])), (40, .num ng ex sg 40), (41, .val (.agg #[.bool neg, .slice ao l ca, .int .i64 z])), (42, .val (.int .i64 sz)), (43, .val (.bool true)), (44, .val (.bool true))]
                (fun W => FdSt neg z s ao l ca (x) w W ∧ WB W p7 (dgl y 1) (dgl y 0)) mixedOk (by kernel_rfl) (by kernel_rfl) (⟨h9.1.below (Below.refl _ _).drew, h9.2.below (Below.refl _ _).drew⟩) (fun W W' h hb => ⟨h.1.below hb, h.2.below hb⟩) ?_ ?_
              · refine gSt (gStep_run rfl (gRun_move 0 32 (.inl rfl) rfl (by decide +kernel) (fun v w h => h))) ?_
                refine gSt (gStep_run rfl ?_) ?_
                · intro ρ W hC hc hf hL
                  have e7 : ρ (.tmp 7) = .pointer (some ⟨p7, 0, none⟩) := hL 7 (by decide +kernel)
                  have l0 := hC.2.h
                  have l1 := hC.2.l
                  simp [go_sem, hc, hf, e7, l0, l1]
                  exact ⟨Below.refl _ _, rfl⟩
                refine gSt (gStep_run rfl ?_) ?_
                · intro ρ W hC hc hf hL
                  have e32 : ρ (.tmp 32) = .int .i64 f := hL 32 (by decide +kernel)
                  have e33 : ρ (.tmp 33) = .agg #[.int .u64 (dgl (y) 1 : Nat), .int .u64 (dgl (y) 0 : Nat)] := hL 33 (by decide +kernel)
                  simp [go_sem, hc, hf, e32, e33]
                  refine (HCL.out W).mono ?_
                  rintro e w' ⟨rfl, hb⟩
                  exact ⟨_, rfl, by first | exact hb | (subst hb; exact Below.refl _ _), rfl⟩
                refine gSt (gStep_run rfl ?_) ?_
                · intro ρ W hC hc hf hL
                  have e34 : ρ (.tmp 34) = .int .i64 ((cl : Nat) : Int) := hL 34 (by decide +kernel)
                  simp [go_sem, hc, hf, e34, hc4, hc5]
                  exact ⟨Below.refl _ _, rfl⟩
                refine gSt (gStep_run rfl (gRun_move 35 36 (.inl rfl) rfl (by decide +kernel) (fun v w h => h))) ?_
                refine gSt (gStep_on 4 36 true rfl rfl (by decide +kernel) (fun v w h => h) (gRun_move 0 37 (.inl rfl) rfl (by decide +kernel) (fun v w h => h))) ?_
                refine gSt (gStep_on 4 36 true rfl rfl (by decide +kernel) (fun v w h => h) ?_) ?_
                · intro ρ W hC hc hf hL
                  have e7 : ρ (.tmp 7) = .pointer (some ⟨p7, 0, none⟩) := hL 7 (by decide +kernel)
                  have l0 := hC.2.h
                  have l1 := hC.2.l
                  simp [go_sem, hc, hf, e7, l0, l1]
                  exact ⟨Below.refl _ _, rfl⟩
                refine gSt (gStep_on 4 36 true rfl rfl (by decide +kernel) (fun v w h => h) ?_) ?_
                · intro ρ W hC hc hf hL
                  have e37 : ρ (.tmp 37) = .int .i64 f := hL 37 (by decide +kernel)
                  have e38 : ρ (.tmp 38) = .agg #[.int .u64 (dgl (y) 1 : Nat), .int .u64 (dgl (y) 0 : Nat)] := hL 38 (by decide +kernel)
                  simp [go_sem, hc, hf, e37, e38]
                  refine (HVA.out W).mono ?_
                  rintro e w' ⟨rfl, hb⟩
                  exact ⟨_, rfl, by first | exact hb | (subst hb; exact Below.refl _ _), rfl⟩
                refine gSt (gStep_on 4 36 true rfl rfl (by decide +kernel) (fun v w h => h) ?_) ?_
                · intro ρ W hC hc hf hL
                  have e39 : ρ (.tmp 39) = .agg #[.bool (ng), .int .i64 (ex), .int .u64 (dgl (sg) 0 : Nat), .int .u64 (dgl (sg) 1 : Nat), .int .u64 (dgl (sg) 2 : Nat), .int .u64 (dgl (sg) 3 : Nat), .int .u64 (dgl (sg) 4 : Nat), .int .u64 (dgl (sg) 5 : Nat), .int .u64 (dgl (sg) 6 : Nat), .int .u64 (dgl (sg) 7 : Nat)] := hL 39 (by decide +kernel)
                  simp [go_sem, hc, hf, e39]
                  refine (HOF.out W).mono ?_
                  rintro e w' ⟨v, rfl, hv, hb⟩
                  exact ⟨_, rfl, hb, hv⟩
                refine gSt (gStep_on 4 36 true rfl rfl (by decide +kernel) (fun v w h => h) ?_) ?_
                · intro ρ W hC hc hf hL
                  have e3 : ρ (.tmp 3) = .pointer (some ⟨w.heap.size, 0, none⟩) := hL 3 (by decide +kernel)
                  have l0 := hC.1.n0
                  have l1 := hC.1.n1
                  have l2 := hC.1.n2
                  simp [go_sem, hc, hf, e3, l0, l1, l2]
                  exact ⟨Below.refl _ _, rfl⟩
                refine gSt (gStep_on 4 36 true rfl rfl (by decide +kernel) (fun v w h => h) ?_) ?_
                · intro ρ W hC hc hf hL
                  have b40 := hL 40 (by decide +kernel)
                  have e41 : ρ (.tmp 41) = .agg #[.bool neg, .slice ao l ca, .int .i64 z] := hL 41 (by decide +kernel)
                  simp [go_sem, hc, hf, e41]
                  refine (HSZ.out _ W b40 hC.1.num).mono ?_
                  rintro e w' ⟨rfl, hb⟩
                  exact ⟨_, rfl, by first | exact hb | (subst hb; exact Below.refl _ _), rfl⟩
                refine gSt (gStep_on 4 36 true rfl rfl (by decide +kernel) (fun v w h => h) ?_) ?_
                · intro ρ W hC hc hf hL
                  have e42 : ρ (.tmp 42) = .int .i64 sz := hL 42 (by decide +kernel)
                  simp [go_sem, hc, hf, e42, hsz, hsz2]
                  exact ⟨Below.refl _ _, rfl⟩
                refine gSt (gStep_run rfl (gRun_pickT 36 43 44 _ rfl rfl (by decide +kernel) (by decide +kernel) (fun v w h => h) (fun v w h => h))) ?_
                exact gSt0
              · intro W hC
                refine gFi 32 rfl ?_
                rintro _ rfl
                refine gFi 33 rfl ?_
                rintro _ rfl
                refine gFi 34 rfl ?_
                rintro _ rfl
                refine gFi 35 rfl ?_
                rintro _ rfl
                refine gFi 36 rfl ?_
                rintro _ rfl
                refine gFi 37 rfl ?_
                rintro _ rfl
                refine gFi 38 rfl ?_
                rintro _ rfl
                refine gFi 39 rfl ?_
                rintro _ rfl
                refine gFi 40 rfl ?_
                rintro u40 b40
                refine gFi 41 rfl ?_
                rintro _ rfl
                refine gFi 42 rfl ?_
                rintro _ rfl
                refine gFi 43 rfl ?_
                rintro _ rfl
                refine gFi 44 rfl ?_
                rintro _ rfl
                refine gFi0 ?_
                simp only [List.drop_succ_cons, List.drop_zero, Act.put, List.setIfInBounds_toArray, List.set_cons_succ, List.set_cons_zero]
                have l0 := hC.2.h
                have l1 := hC.2.l
                have r0 := hC.1.o.h
                have r1 := hC.1.o.l
                have rf := hC.1.fo
                have rl := hC.1.o.lt
                have HS3 := hide hC.1
                clear hC h9
                have hw : IntKind.i64.wrap ((k : Int) - 1) = (k : Int) - 1 := by rw [IntKind.wrap_i64]; omega
                go_wp2
                go_roundw
                case rel => exact ⟨y, k, (k : Int) - 1, by omega, hide rfl, rfl, hide (HTK.out), by rw [HPY.out]; exact HS3.out.set y⟩
                case measure => first | (simp [intOf]; done) | (simp [intOf]; omega)
            · replace HLV := hide (HLV.out (HTB.out.trans (decide_eq_false hsz)))
              have hsz2 : decide (sz ≤ 0) = false := decide_eq_false hsz
              clear HTK HTB
              refine wp_region_grow 13 [(32, .val (.int .i64 f)), (33, .val (.agg #[.int .u64 (dgl (y) 1 : Nat), .int .u64 (dgl (y) 0 : Nat)])), (34, .val (.int .i64 ((cl : Nat) : Int))), (35, .val (.bool true)), (36, .val (.bool true)), (37, .val (.int .i64 f)), (38, .val (.agg #[.int .u64 (dgl (y) 1 : Nat), .int .u64 (dgl (y) 0 : Nat)])), (39, .val (.agg #[.bool (ng), .int .i64 (ex), .int .u64 (dgl (sg) 0 : Nat), .int .u64 (dgl (sg) 1 : Nat), .int .u64 (dgl (sg) 2 : Nat), .int .u64 (dgl (sg) 3 : Nat), .int .u64 (dgl (sg) 4 : Nat), .int .u64 (dgl (sg) 5 : Nat), .int .u64 (dgl (sg) 6 : Nat), .int .u64 (dgl (sg) 7 : Nat)])), (40, .num ng ex sg 40), (41, .val (.agg #[.bool neg, .slice ao l ca, .int .i64 z])), (42, .val (.int .i64 sz)), (43, .val (.bool false)), (44, .val (.bool false))]
                (fun W => FdSt neg z s ao l ca (x) w W ∧ WB W p7 (dgl y 1) (dgl y 0)) mixedOk (by kernel_rfl) (by kernel_rfl) (⟨h9.1.below (Below.refl _ _).drew, h9.2.below (Below.refl _ _).drew⟩) (fun W W' h hb => ⟨h.1.below hb, h.2.below hb⟩) ?_ ?_
              · refine gSt (gStep_run rfl (gRun_move 0 32 (.inl rfl) rfl (by decide +kernel) (fun v w h => h))) ?_
                refine gSt (gStep_run rfl ?_) ?_
                · intro ρ W hC hc hf hL
                  have e7 : ρ (.tmp 7) = .pointer (some ⟨p7, 0, none⟩) := hL 7 (by decide +kernel)
                  have l0 := hC.2.h
                  have l1 := hC.2.l
                  simp [go_sem, hc, hf, e7, l0, l1]
                  exact ⟨Below.refl _ _, rfl⟩
                refine gSt (gStep_run rfl ?_) ?_
                · intro ρ W hC hc hf hL
                  have e32 : ρ (.tmp 32) = .int .i64 f := hL 32 (by decide +kernel)
                  have e33 : ρ (.tmp 33) = .agg #[.int .u64 (dgl (y) 1 : Nat), .int .u64 (dgl (y) 0 : Nat)] := hL 33 (by decide +kernel)
                  simp [go_sem, hc, hf, e32, e33]
                  refine (HCL.out W).mono ?_
                  rintro e w' ⟨rfl, hb⟩
                  exact ⟨_, rfl, by first | exact hb | (subst hb; exact Below.refl _ _), rfl⟩
                refine gSt (gStep_run rfl ?_) ?_
                · intro ρ W hC hc hf hL
                  have e34 : ρ (.tmp 34) = .int .i64 ((cl : Nat) : Int) := hL 34 (by decide +kernel)
                  simp [go_sem, hc, hf, e34, hc4, hc5]
                  exact ⟨Below.refl _ _, rfl⟩
                refine gSt (gStep_run rfl (gRun_move 35 36 (.inl rfl) rfl (by decide +kernel) (fun v w h => h))) ?_
                refine gSt (gStep_on 4 36 true rfl rfl (by decide +kernel) (fun v w h => h) (gRun_move 0 37 (.inl rfl) rfl (by decide +kernel) (fun v w h => h))) ?_
                refine gSt (gStep_on 4 36 true rfl rfl (by decide +kernel) (fun v w h => h) ?_) ?_
                · intro ρ W hC hc hf hL
                  have e7 : ρ (.tmp 7) = .pointer (some ⟨p7, 0, none⟩) := hL 7 (by decide +kernel)
                  have l0 := hC.2.h
                  have l1 := hC.2.l
                  simp [go_sem, hc, hf, e7, l0, l1]
                  exact ⟨Below.refl _ _, rfl⟩
                refine gSt (gStep_on 4 36 true rfl rfl (by decide +kernel) (fun v w h => h) ?_) ?_
                · intro ρ W hC hc hf hL
                  have e37 : ρ (.tmp 37) = .int .i64 f := hL 37 (by decide +kernel)
                  have e38 : ρ (.tmp 38) = .agg #[.int .u64 (dgl (y) 1 : Nat), .int .u64 (dgl (y) 0 : Nat)] := hL 38 (by decide +kernel)
                  simp [go_sem, hc, hf, e37, e38]
                  refine (HVA.out W).mono ?_
                  rintro e w' ⟨rfl, hb⟩
                  exact ⟨_, rfl, by first | exact hb | (subst hb; exact Below.refl _ _), rfl⟩
                refine gSt (gStep_on 4 36 true rfl rfl (by decide +kernel) (fun v w h => h) ?_) ?_
                · intro ρ W hC hc hf hL
                  have e39 : ρ (.tmp 39) = .agg #[.bool (ng), .int .i64 (ex), .int .u64 (dgl (sg) 0 : Nat), .int .u64 (dgl (sg) 1 : Nat), .int .u64 (dgl (sg) 2 : Nat), .int .u64 (dgl (sg) 3 : Nat), .int .u64 (dgl (sg) 4 : Nat), .int .u64 (dgl (sg) 5 : Nat), .int .u64 (dgl (sg) 6 : Nat), .int .u64 (dgl (sg) 7 : Nat)] := hL 39 (by decide +kernel)
                  simp [go_sem, hc, hf, e39]
                  refine (HOF.out W).mono ?_
                  rintro e w' ⟨v, rfl, hv, hb⟩
                  exact ⟨_, rfl, hb, hv⟩
                refine gSt (gStep_on 4 36 true rfl rfl (by decide +kernel) (fun v w h => h) ?_) ?_
                · intro ρ W hC hc hf hL
                  have e3 : ρ (.tmp 3) = .pointer (some ⟨w.heap.size, 0, none⟩) := hL 3 (by decide +kernel)
                  have l0 := hC.1.n0
                  have l1 := hC.1.n1
                  have l2 := hC.1.n2
                  simp [go_sem, hc, hf, e3, l0, l1, l2]
                  exact ⟨Below.refl _ _, rfl⟩
                refine gSt (gStep_on 4 36 true rfl rfl (by decide +kernel) (fun v w h => h) ?_) ?_
                · intro ρ W hC hc hf hL
                  have b40 := hL 40 (by decide +kernel)
                  have e41 : ρ (.tmp 41) = .agg #[.bool neg, .slice ao l ca, .int .i64 z] := hL 41 (by decide +kernel)
                  simp [go_sem, hc, hf, e41]
                  refine (HSZ.out _ W b40 hC.1.num).mono ?_
                  rintro e w' ⟨rfl, hb⟩
                  exact ⟨_, rfl, by first | exact hb | (subst hb; exact Below.refl _ _), rfl⟩
                refine gSt (gStep_on 4 36 true rfl rfl (by decide +kernel) (fun v w h => h) ?_) ?_
                · intro ρ W hC hc hf hL
                  have e42 : ρ (.tmp 42) = .int .i64 sz := hL 42 (by decide +kernel)
                  simp [go_sem, hc, hf, e42, hsz, hsz2]
                  exact ⟨Below.refl _ _, rfl⟩
                refine gSt (gStep_run rfl (gRun_pickT 36 43 44 _ rfl rfl (by decide +kernel) (by decide +kernel) (fun v w h => h) (fun v w h => h))) ?_
                exact gSt0
              · intro W hC
                refine gFi 32 rfl ?_
                rintro _ rfl
                refine gFi 33 rfl ?_
                rintro _ rfl
                refine gFi 34 rfl ?_
                rintro _ rfl
                refine gFi 35 rfl ?_
                rintro _ rfl
                refine gFi 36 rfl ?_
                rintro _ rfl
                refine gFi 37 rfl ?_
                rintro _ rfl
                refine gFi 38 rfl ?_
                rintro _ rfl
                refine gFi 39 rfl ?_
                rintro _ rfl
                refine gFi 40 rfl ?_
                rintro u40 b40
                refine gFi 41 rfl ?_
                rintro _ rfl
                refine gFi 42 rfl ?_
                rintro _ rfl
                refine gFi 43 rfl ?_
                rintro _ rfl
                refine gFi 44 rfl ?_
                rintro _ rfl
                refine gFi0 ?_
                simp only [List.drop_succ_cons, List.drop_zero, Act.put, List.setIfInBounds_toArray, List.set_cons_succ, List.set_cons_zero]
                have HS3 := hide hC.1
                clear hC h9
                have hw : IntKind.i64.wrap ((k : Int) - 1) = (k : Int) - 1 := by rw [IntKind.wrap_i64]; omega
                go_wp2
                go_roundw
                case rel => exact ⟨x, k, (k : Int) - 1, by omega, hide rfl, rfl, hide (HLV.out), HS3⟩
                case measure => first | (simp [intOf]; done) | (simp [intOf]; omega)
          · have HLV : Hid (FInv (takeB f s z) (mU f) k x) := by
              unfold Hid
              refine finv_leave HI.out HMO.out ?_
              rw [HYE.out]
              unfold takeB
              rw [decide_eq_false hc4, Bool.false_and]
            have hc5 : decide (4 ≤ clsU f y) = false := decide_eq_false hc4
            have hc6 : decide ((4 : Int) ≤ ((clsU f y : Nat) : Int)) = false := decide_eq_false (by omega)
            generalize clsU f y = cl at *
            refine wp_region_grow 13 [(32, .val (.int .i64 f)), (33, .val (.agg #[.int .u64 (dgl (y) 1 : Nat), .int .u64 (dgl (y) 0 : Nat)])), (34, .val (.int .i64 ((cl : Nat) : Int))), (35, .val (.bool false)), (36, .val (.bool false)), (37, .val (undef)), (38, .val (undef)), (39, .val (undef)), (40, .val (undef)), (41, .val (undef)), (42, .val (undef)), (43, .val (undef)), (44, .val (.bool false))]
              (fun W => FdSt neg z s ao l ca (x) w W ∧ WB W p7 (dgl y 1) (dgl y 0)) mixedOk (by kernel_rfl) (by kernel_rfl) (⟨h9.1.below (Below.refl _ _).drew, h9.2.below (Below.refl _ _).drew⟩) (fun W W' h hb => ⟨h.1.below hb, h.2.below hb⟩) ?_ ?_
            · refine gSt (gStep_run rfl (gRun_move 0 32 (.inl rfl) rfl (by decide +kernel) (fun v w h => h))) ?_
              refine gSt (gStep_run rfl ?_) ?_
              · intro ρ W hC hc hf hL
                have e7 : ρ (.tmp 7) = .pointer (some ⟨p7, 0, none⟩) := hL 7 (by decide +kernel)
                have l0 := hC.2.h
                have l1 := hC.2.l
                simp [go_sem, hc, hf, e7, l0, l1]
                exact ⟨Below.refl _ _, rfl⟩
              refine gSt (gStep_run rfl ?_) ?_
              · intro ρ W hC hc hf hL
                have e32 : ρ (.tmp 32) = .int .i64 f := hL 32 (by decide +kernel)
                have e33 : ρ (.tmp 33) = .agg #[.int .u64 (dgl (y) 1 : Nat), .int .u64 (dgl (y) 0 : Nat)] := hL 33 (by decide +kernel)
                simp [go_sem, hc, hf, e32, e33]
                refine (HCL.out W).mono ?_
                rintro e w' ⟨rfl, hb⟩
                exact ⟨_, rfl, by first | exact hb | (subst hb; exact Below.refl _ _), rfl⟩
              refine gSt (gStep_run rfl ?_) ?_
              · intro ρ W hC hc hf hL
                have e34 : ρ (.tmp 34) = .int .i64 ((cl : Nat) : Int) := hL 34 (by decide +kernel)
                simp [go_sem, hc, hf, e34, hc5, hc6]
                exact ⟨Below.refl _ _, rfl⟩
              refine gSt (gStep_run rfl (gRun_move 35 36 (.inl rfl) rfl (by decide +kernel) (fun v w h => h))) ?_
              refine gSt (gStep_off 4 36 true rfl rfl (by decide +kernel) (fun v w h => h) (fun w => rfl)) ?_
              refine gSt (gStep_off 4 36 true rfl rfl (by decide +kernel) (fun v w h => h) (fun w => rfl)) ?_
              refine gSt (gStep_off 4 36 true rfl rfl (by decide +kernel) (fun v w h => h) (fun w => rfl)) ?_
              refine gSt (gStep_off 4 36 true rfl rfl (by decide +kernel) (fun v w h => h) (fun w => rfl)) ?_
              refine gSt (gStep_off 4 36 true rfl rfl (by decide +kernel) (fun v w h => h) (fun w => rfl)) ?_
              refine gSt (gStep_off 4 36 true rfl rfl (by decide +kernel) (fun v w h => h) (fun w => rfl)) ?_
              refine gSt (gStep_off 4 36 true rfl rfl (by decide +kernel) (fun v w h => h) (fun w => rfl)) ?_
              refine gSt (gStep_run rfl (gRun_pickF 36 44 _ _ rfl rfl (by decide +kernel) (fun v w h => h) (fun w => rfl))) ?_
              exact gSt0
            · intro W hC
              refine gFi 32 rfl ?_
              rintro _ rfl
              refine gFi 33 rfl ?_
              rintro _ rfl
              refine gFi 34 rfl ?_
              rintro _ rfl
              refine gFi 35 rfl ?_
              rintro _ rfl
              refine gFi 36 rfl ?_
              rintro _ rfl
              refine gFi 37 rfl ?_
              rintro _ rfl
              refine gFi 38 rfl ?_
              rintro _ rfl
              refine gFi 39 rfl ?_
              rintro _ rfl
              refine gFi 40 rfl ?_
              rintro _ rfl
              refine gFi 41 rfl ?_
              rintro _ rfl
              refine gFi 42 rfl ?_
              rintro _ rfl
              refine gFi 43 rfl ?_
              rintro _ rfl
              refine gFi 44 rfl ?_
              rintro _ rfl
              refine gFi0 ?_
              simp only [List.drop_succ_cons, List.drop_zero, Act.put, List.setIfInBounds_toArray, List.set_cons_succ, List.set_cons_zero]
              have HS3 := hide hC.1
              clear hC h9
              have hw : IntKind.i64.wrap ((k : Int) - 1) = (k : Int) - 1 := by rw [IntKind.wrap_i64]; omega
              go_wp2
              go_roundw
              case rel => exact ⟨x, k, (k : Int) - 1, by omega, hide rfl, rfl, hide (HLV.out), HS3⟩
              case measure => first | (simp [intOf]; done) | (simp [intOf]; omega)
    · obtain rfl : zi = -1 := by have := hzi.out; omega
      obtain rfl : c = 0 := by have := hzi.out; omega
      obtain rfl := finv_uniq HI.out HXX.out
      have r0 := hst.out.o.h
      have r1 := hst.out.o.l
      have q0 := hst.out.r.h
      have q1 := hst.out.r.l
      have ql := hst.out.r.lt
      have qf := hst.out.fr
      have HBE := hide hst.out.bel
      clear hst HS0 HI0 hzi
      go_wp2
      exact bodyPost_ret (v := .agg #[.int .u64 (dgl (x) 1 : Nat), .int .u64 (dgl (x) 0 : Nat)]) (by simp [results, Tryd.results57, go_sem, q0, q1, ql]) rfl ⟨rfl, (HBE.out.setCell (p := ⟨w.heap.size + 1, 0, none⟩) (Nat.le_succ _) _).setCell (p := ⟨w.heap.size + 1, 1, none⟩) (Nat.le_succ _) _⟩

end Go.Proofs.YtpcjdllijkjdkaaDoor

/- Contracts: nan.quietBit, Payload, With, Quieted. -/
set_option linter.unusedVariables false
set_option linter.unusedSimpArgs false
set_option maxRecDepth 8000
namespace Go.Proofs.YtpcjdllijkjdkaaDoor
open Go.RowKit Plain

theorem WB.under {W W' : World} {p x y : Nat} (h : WB W p x y) {C : Nat} (hb : Below C W W') (hc : p < C) : WB W' p x y :=
  ⟨(hb.cell (p := ⟨p, 0, none⟩) hc).trans h.h, (hb.cell (p := ⟨p, 1, none⟩) hc).trans h.l, Nat.lt_of_lt_of_le h.lt hb.size⟩
/-- The word of none; its fraction; the greatest field. -/
def nanW (f : Int) : Nat := tU f 32256 2143289344 9221120237041090560 170138587312039964317873038467719495680 0
def qb (f : Int) : Nat := tU f (2 ^ 9) (2 ^ 22) (2 ^ 51) (2 ^ 111) 0
def fxU (f : Int) : Nat := tU f 31 255 2047 32767 0
theorem nanW_lt (f : Int) : nanW f < 2 ^ 128 := by
  unfold nanW tU
  repeat' split
  all_goals decide +kernel
theorem nanW_frc (f : Int) : frcU f (nanW f) = qb f := by
  rcases f_cases f with rfl | rfl | rfl | rfl | h0
  · decide +kernel
  · decide +kernel
  · decide +kernel
  · decide +kernel
  · exact (tU_none f h0 _ _ _ _ _).trans (tU_none f h0 _ _ _ _ _).symm
theorem nanW_fld (f : Int) : fldU f (nanW f) = fxU f := by
  rcases f_cases f with rfl | rfl | rfl | rfl | h0
  · decide +kernel
  · decide +kernel
  · decide +kernel
  · decide +kernel
  · exact (tU_none f h0 _ _ _ _ _).trans (tU_none f h0 _ _ _ _ _).symm
theorem qb_qq (f : Int) : qb f < QQ := by
  unfold qb tU
  repeat' split
  all_goals decide +kernel
theorem nan_u (f : Int) (w : World) (hg : FmtG w) : Calls Tryd.prog 93 #[.int .i64 f] w fun e w' => e = .returned (.agg #[.int .u64 (dgl (nanW f) 1 : Nat), .int .u64 (dgl (nanW f) 0 : Nat)]) ∧ Below w.heap.size w w' := by
  rcases f_cases f with rfl | rfl | rfl | rfl | h0
  · exact nan_1 w hg
  · exact nan_2 w hg
  · exact nan_3 w hg
  · exact nan_4 w hg
  · rw [show nanW f = 0 from tU_none f h0 _ _ _ _ _, dgl_zero, dgl_zero]
    exact nan_none f h0 w hg
structure QbSt  (w W : World) : Prop where
  g : FmtG W
  gl : 1 < w.heap.size
  r : LiesF W (w.heap.size) (fun _ => 0)
  fr : ∀ i, W.frozen? ⟨w.heap.size, i, none⟩ = false
  lt : w.heap.size < W.heap.size
  bel : Below w.heap.size w W
theorem QbSt.under  {w W W' : World} (h : QbSt w W) {C : Nat} (hb : Below C W W') (hc : w.heap.size < C) : QbSt w W' :=
  ⟨⟨fun i hi => (hb.cell (p := ⟨1, i, none⟩) (show 1 < C by have := h.gl; omega)).trans (h.g.c i hi), Nat.lt_of_lt_of_le h.g.lt hb.size⟩, h.gl, lies_box h.r hb (show w.heap.size < C by omega), fun i => (hb.frozen (p := ⟨w.heap.size, i, none⟩) (show w.heap.size < C by omega)).trans (h.fr i), Nat.lt_of_lt_of_le h.lt hb.size, h.bel.trans (hb.mono (by omega))⟩
theorem QbSt.below  {w W W' : World} (h : QbSt w W) (hb : Below W.heap.size W W') : QbSt w W' := h.under hb h.lt

set_option maxHeartbeats 1000000 in
theorem qbit_u (f : Int) (w : World) (hg : FmtG w) : Calls Tryd.prog 99 #[.int .i64 f] w fun e w' => e = .returned (.agg #[.int .u64 (dgl (qb f) 0 : Nat), .int .u64 (dgl (qb f) 1 : Nat), .int .u64 (dgl (qb f) 2 : Nat), .int .u64 (dgl (qb f) 3 : Nat), .int .u64 (dgl (qb f) 4 : Nat), .int .u64 (dgl (qb f) 5 : Nat), .int .u64 (dgl (qb f) 6 : Nat), .int .u64 (dgl (qb f) 7 : Nat)]) ∧ Below w.heap.size w w' := by
  have HS := hide (show QbSt w (w.alloc (.cells #[.int .u64 0, .int .u64 0, .int .u64 0, .int .u64 0, .int .u64 0, .int .u64 0, .int .u64 0, .int .u64 0] 24)) from ⟨hg.below (below_allocs _ _), hg.lt, liesF_new w (fun _ => 0) 24, fun i => by simp [go_sem], by simp, below_allocs _ _⟩)
  have HN := hide (fun w hg => nan_u f w hg)
  have HF := hide (fun w hg => cfrac_u f (nanW f) (nanW_lt f) w hg)
  rw [nanW_frc] at HF
  generalize nanW f = a at *
  generalize qb f = q at *
  clear hg
  go_enter Tryd.func99, Tryd.ntmps99
  go_upto_region 1 with fail
  refine wp_gen (fun W => QbSt w W) HS.out ?_
  clear HS
  rintro W1 h1
  have HS := hide h1
  clear h1
  go_wp2_with fail
  refine (HN.out _ HS.out.g).mono ?_
  rintro e w1 ⟨rfl, hb1⟩
  replace HS := hide (HS.out.below hb1)
  clear hb1
  go_wp2_with fail
  refine (HF.out _ HS.out.g).mono ?_
  rintro e w2 ⟨rfl, hb2⟩
  replace HS := hide (HS.out.below hb2)
  clear hb2
  have z := HS.out.r.1
  have hrf := HS.out.fr
  have hlt := HS.out.lt
  have HB := hide HS.out.bel
  clear HS
  go_wp2
  exact bodyPost_ret (v := .agg #[.int .u64 (dgl (q) 0 : Nat), .int .u64 (dgl (q) 1 : Nat), .int .u64 (dgl (q) 2 : Nat), .int .u64 (dgl (q) 3 : Nat), .int .u64 (dgl (q) 4 : Nat), .int .u64 (dgl (q) 5 : Nat), .int .u64 (dgl (q) 6 : Nat), .int .u64 (dgl (q) 7 : Nat)]) (by simp [results, Tryd.results99, go_sem, hlt, z]) rfl ⟨rfl, below_set8 HB.out _ (Nat.le_refl _) _ _ _ _ _ _ _ _⟩

structure PySt (a : Nat) (w W : World) : Prop where
  g : FmtG W
  gl : 1 < w.heap.size
  wa : WB W (w.heap.size) (dgl a 1) (dgl a 0)
  r : LiesF W (w.heap.size + 1) (fun _ => 0)
  fr : ∀ i, W.frozen? ⟨w.heap.size + 1, i, none⟩ = false
  lt : w.heap.size + 1 < W.heap.size
  bel : Below w.heap.size w W
theorem PySt.under {a : Nat} {w W W' : World} (h : PySt a w W) {C : Nat} (hb : Below C W W') (hc : w.heap.size + 1 < C) : PySt a w W' :=
  ⟨⟨fun i hi => (hb.cell (p := ⟨1, i, none⟩) (show 1 < C by have := h.gl; omega)).trans (h.g.c i hi), Nat.lt_of_lt_of_le h.g.lt hb.size⟩, h.gl, h.wa.under hb (show w.heap.size < C by omega), lies_box h.r hb (show w.heap.size + 1 < C by omega), fun i => (hb.frozen (p := ⟨w.heap.size + 1, i, none⟩) (show w.heap.size + 1 < C by omega)).trans (h.fr i), Nat.lt_of_lt_of_le h.lt hb.size, h.bel.trans (hb.mono (by omega))⟩
theorem PySt.below {a : Nat} {w W W' : World} (h : PySt a w W) (hb : Below W.heap.size W W') : PySt a w W' := h.under hb h.lt
theorem pySt_start (a : Nat) (w : World) (hg : FmtG w) : PySt a w ((w.alloc (.cells #[.int .u64 (dgl (a) 1 : Nat), .int .u64 (dgl (a) 0 : Nat)] 28)).alloc (.cells #[.int .u64 0, .int .u64 0, .int .u64 0, .int .u64 0, .int .u64 0, .int .u64 0, .int .u64 0, .int .u64 0] 24)) := by
  have h1 := liesF_new (w.alloc (.cells #[.int .u64 (dgl (a) 1 : Nat), .int .u64 (dgl (a) 0 : Nat)] 28)) (fun _ => 0) 24
  rw [World.size_alloc] at h1
  exact ⟨(hg.below (below_allocs _ _)).below (below_allocs _ _), hg.lt, ⟨by simp [go_sem], by simp [go_sem], by simp; omega⟩, h1, fun i => by simp [go_sem], by simp, below_trans (below_allocs _ _) (below_allocs _ _)⟩

set_option maxHeartbeats 2000000 in
theorem payl_A (f : Int) (a r q s cl : Nat) (ov : Bool)
    (HNN : Hid (∀ w, FmtG w → Calls Tryd.prog 89 #[.int .i64 f, .agg #[.int .u64 (dgl (a) 1 : Nat), .int .u64 (dgl (a) 0 : Nat)]] w fun e w' => e = .returned (.bool false) ∧ Below w.heap.size w w')) (w : World) (hg : FmtG w) :
    Calls Tryd.prog 44 #[.int .i64 f, .agg #[.int .u64 (dgl (a) 1 : Nat), .int .u64 (dgl (a) 0 : Nat)]] w fun e w' => e = .returned (.tuple #[.agg #[.int .u64 (dgl (0) 0 : Nat), .int .u64 (dgl (0) 1 : Nat), .int .u64 (dgl (0) 2 : Nat), .int .u64 (dgl (0) 3 : Nat), .int .u64 (dgl (0) 4 : Nat), .int .u64 (dgl (0) 5 : Nat), .int .u64 (dgl (0) 6 : Nat), .int .u64 (dgl (0) 7 : Nat)], .bool false]) ∧ Below w.heap.size w w' := by
  have HS := hide (pySt_start a w hg)
  clear hg
  go_enter Tryd.func44, Tryd.ntmps44
  go_upto_region 1 with fail
  refine wp_gen (fun W => PySt a w W) HS.out ?_
  clear HS
  rintro W1 h1
  have HS := hide h1
  clear h1
  have lh := HS.out.wa.h
  have ll := HS.out.wa.l
  go_wp2_with fail
  refine (HNN.out _ HS.out.g).mono ?_
  rintro e w1 ⟨rfl, hb1⟩
  replace HS := hide (HS.out.below hb1)
  clear hb1
  clear lh ll
  have z := HS.out.r.1
  have hrf := HS.out.fr
  have hlt := HS.out.lt
  have HB := hide HS.out.bel
  clear HS
  go_wp2
  exact bodyPost_ret (v := .tuple #[.agg #[.int .u64 (dgl (0) 0 : Nat), .int .u64 (dgl (0) 1 : Nat), .int .u64 (dgl (0) 2 : Nat), .int .u64 (dgl (0) 3 : Nat), .int .u64 (dgl (0) 4 : Nat), .int .u64 (dgl (0) 5 : Nat), .int .u64 (dgl (0) 6 : Nat), .int .u64 (dgl (0) 7 : Nat)], .bool false]) (by simp [results, Tryd.results44, go_sem, hlt, z, dgl_zero]) rfl ⟨rfl, below_set8 HB.out _ (Nat.le_succ _) _ _ _ _ _ _ _ _⟩

set_option maxHeartbeats 2000000 in
theorem payl_B (f : Int) (a r q s cl : Nat) (ov : Bool)
    (HNN : Hid (∀ w, FmtG w → Calls Tryd.prog 89 #[.int .i64 f, .agg #[.int .u64 (dgl (a) 1 : Nat), .int .u64 (dgl (a) 0 : Nat)]] w fun e w' => e = .returned (.bool true) ∧ Below w.heap.size w w'))
    (HFR : Hid (∀ w, FmtG w → Calls Tryd.prog 98 #[.int .i64 f, .agg #[.int .u64 (dgl (a) 1 : Nat), .int .u64 (dgl (a) 0 : Nat)]] w fun e w' => e = .returned (.agg #[.int .u64 (dgl (r) 0 : Nat), .int .u64 (dgl (r) 1 : Nat), .int .u64 (dgl (r) 2 : Nat), .int .u64 (dgl (r) 3 : Nat), .int .u64 (dgl (r) 4 : Nat), .int .u64 (dgl (r) 5 : Nat), .int .u64 (dgl (r) 6 : Nat), .int .u64 (dgl (r) 7 : Nat)]) ∧ Below w.heap.size w w'))
    (HOF : Hid (∀ w, FmtG w → Calls Tryd.prog 92 #[.int .i64 f, .agg #[.int .u64 (dgl (a) 1 : Nat), .int .u64 (dgl (a) 0 : Nat)]] w fun e w' => e = .returned (.int .i64 (cl : Nat)) ∧ Below w.heap.size w w'))
    (hcl : ((cl : Int) == 2) = false) (hcl2 : ¬ (cl : Int) = 2) (w : World) (hg : FmtG w) :
    Calls Tryd.prog 44 #[.int .i64 f, .agg #[.int .u64 (dgl (a) 1 : Nat), .int .u64 (dgl (a) 0 : Nat)]] w fun e w' => e = .returned (.tuple #[.agg #[.int .u64 (dgl (r) 0 : Nat), .int .u64 (dgl (r) 1 : Nat), .int .u64 (dgl (r) 2 : Nat), .int .u64 (dgl (r) 3 : Nat), .int .u64 (dgl (r) 4 : Nat), .int .u64 (dgl (r) 5 : Nat), .int .u64 (dgl (r) 6 : Nat), .int .u64 (dgl (r) 7 : Nat)], .bool true]) ∧ Below w.heap.size w w' := by
  have HS := hide (pySt_start a w hg)
  clear hg
  go_enter Tryd.func44, Tryd.ntmps44
  go_upto_region 1 with fail
  refine wp_gen (fun W => PySt a w W) HS.out ?_
  clear HS
  rintro W1 h1
  have HS := hide h1
  clear h1
  have lh := HS.out.wa.h
  have ll := HS.out.wa.l
  go_wp2_with fail
  refine (HNN.out _ HS.out.g).mono ?_
  rintro e w1 ⟨rfl, hb1⟩
  replace HS := hide (HS.out.below hb1)
  clear hb1
  clear lh ll
  have lh := HS.out.wa.h
  have ll := HS.out.wa.l
  go_wp2_with fail
  refine (HFR.out _ HS.out.g).mono ?_
  rintro e w2 ⟨rfl, hb2⟩
  replace HS := hide (HS.out.below hb2)
  clear hb2
  clear lh ll
  go_upto_region 4 with fail
  refine wp_gen (fun W => PySt a w W ∧ LiesF W w2.heap.size (dgl r) ∧ ∀ i, W.frozen? ⟨w2.heap.size, i, none⟩ = false) ⟨HS.out.below (below_allocs _ _), liesF_new _ _ _, fun i => by simp [go_sem]⟩ ?_
  have HP := hide (show w.heap.size + 1 + 1 ≤ w2.heap.size from HS.out.lt)
  clear HS
  generalize w2.heap.size = p6 at *
  rintro W3 ⟨g1, g2, g3⟩
  have HS := hide g1
  have HL := hide g2
  have HZ := hide g3
  clear g1 g2 g3
  have lh := HS.out.wa.h
  have ll := HS.out.wa.l
  go_wp2_with fail
  refine (HOF.out _ HS.out.g).mono ?_
  rintro e w3 ⟨rfl, hb3⟩
  replace HS := hide (HS.out.below hb3)
  replace HZ := hide (show ∀ i, w3.frozen? ⟨p6, i, none⟩ = false from fun i => (hb3.frozen (p := ⟨p6, i, none⟩) HL.out.2).trans (HZ.out i))
  replace HL := hide (HL.out.below hb3)
  clear hb3
  clear lh ll
  have z := HS.out.r.1
  have hrf := HS.out.fr
  have hlt := HS.out.lt
  have HB := hide HS.out.bel
  have y := HL.out.1
  clear HS HL
  go_wp2
  exact bodyPost_ret (v := .tuple #[.agg #[.int .u64 (dgl (r) 0 : Nat), .int .u64 (dgl (r) 1 : Nat), .int .u64 (dgl (r) 2 : Nat), .int .u64 (dgl (r) 3 : Nat), .int .u64 (dgl (r) 4 : Nat), .int .u64 (dgl (r) 5 : Nat), .int .u64 (dgl (r) 6 : Nat), .int .u64 (dgl (r) 7 : Nat)], .bool true]) (by simp [results, Tryd.results44, go_sem, hlt, z]) rfl ⟨rfl, below_set8 HB.out _ (Nat.le_succ _) _ _ _ _ _ _ _ _⟩

set_option maxHeartbeats 2000000 in
theorem payl_C (f : Int) (a r q s cl : Nat) (ov : Bool)
    (HNN : Hid (∀ w, FmtG w → Calls Tryd.prog 89 #[.int .i64 f, .agg #[.int .u64 (dgl (a) 1 : Nat), .int .u64 (dgl (a) 0 : Nat)]] w fun e w' => e = .returned (.bool true) ∧ Below w.heap.size w w'))
    (HFR : Hid (∀ w, FmtG w → Calls Tryd.prog 98 #[.int .i64 f, .agg #[.int .u64 (dgl (a) 1 : Nat), .int .u64 (dgl (a) 0 : Nat)]] w fun e w' => e = .returned (.agg #[.int .u64 (dgl (r) 0 : Nat), .int .u64 (dgl (r) 1 : Nat), .int .u64 (dgl (r) 2 : Nat), .int .u64 (dgl (r) 3 : Nat), .int .u64 (dgl (r) 4 : Nat), .int .u64 (dgl (r) 5 : Nat), .int .u64 (dgl (r) 6 : Nat), .int .u64 (dgl (r) 7 : Nat)]) ∧ Below w.heap.size w w'))
    (HOF : Hid (∀ w, FmtG w → Calls Tryd.prog 92 #[.int .i64 f, .agg #[.int .u64 (dgl (a) 1 : Nat), .int .u64 (dgl (a) 0 : Nat)]] w fun e w' => e = .returned (.int .i64 (cl : Nat)) ∧ Below w.heap.size w w'))
    (hcl : cl = 2)
    (HQB : Hid (∀ w, FmtG w → Calls Tryd.prog 99 #[.int .i64 f] w fun e w' => e = .returned (.agg #[.int .u64 (dgl (q) 0 : Nat), .int .u64 (dgl (q) 1 : Nat), .int .u64 (dgl (q) 2 : Nat), .int .u64 (dgl (q) 3 : Nat), .int .u64 (dgl (q) 4 : Nat), .int .u64 (dgl (q) 5 : Nat), .int .u64 (dgl (q) 6 : Nat), .int .u64 (dgl (q) 7 : Nat)]) ∧ Below w.heap.size w w'))
    (HSU : Hid (∀ w, Calls Tryd.prog 54 #[.agg #[.int .u64 (dgl (r) 0 : Nat), .int .u64 (dgl (r) 1 : Nat), .int .u64 (dgl (r) 2 : Nat), .int .u64 (dgl (r) 3 : Nat), .int .u64 (dgl (r) 4 : Nat), .int .u64 (dgl (r) 5 : Nat), .int .u64 (dgl (r) 6 : Nat), .int .u64 (dgl (r) 7 : Nat)], .agg #[.int .u64 (dgl (q) 0 : Nat), .int .u64 (dgl (q) 1 : Nat), .int .u64 (dgl (q) 2 : Nat), .int .u64 (dgl (q) 3 : Nat), .int .u64 (dgl (q) 4 : Nat), .int .u64 (dgl (q) 5 : Nat), .int .u64 (dgl (q) 6 : Nat), .int .u64 (dgl (q) 7 : Nat)]] w fun e w' => e = .returned (.tuple #[.agg #[.int .u64 (dgl (s) 0 : Nat), .int .u64 (dgl (s) 1 : Nat), .int .u64 (dgl (s) 2 : Nat), .int .u64 (dgl (s) 3 : Nat), .int .u64 (dgl (s) 4 : Nat), .int .u64 (dgl (s) 5 : Nat), .int .u64 (dgl (s) 6 : Nat), .int .u64 (dgl (s) 7 : Nat)], .bool ov]) ∧ Below w.heap.size w w')) (w : World) (hg : FmtG w) :
    Calls Tryd.prog 44 #[.int .i64 f, .agg #[.int .u64 (dgl (a) 1 : Nat), .int .u64 (dgl (a) 0 : Nat)]] w fun e w' => e = .returned (.tuple #[.agg #[.int .u64 (dgl (s) 0 : Nat), .int .u64 (dgl (s) 1 : Nat), .int .u64 (dgl (s) 2 : Nat), .int .u64 (dgl (s) 3 : Nat), .int .u64 (dgl (s) 4 : Nat), .int .u64 (dgl (s) 5 : Nat), .int .u64 (dgl (s) 6 : Nat), .int .u64 (dgl (s) 7 : Nat)], .bool true]) ∧ Below w.heap.size w w' := by
  have HS := hide (pySt_start a w hg)
  clear hg
  go_enter Tryd.func44, Tryd.ntmps44
  go_upto_region 1 with fail
  refine wp_gen (fun W => PySt a w W) HS.out ?_
  clear HS
  rintro W1 h1
  have HS := hide h1
  clear h1
  have lh := HS.out.wa.h
  have ll := HS.out.wa.l
  go_wp2_with fail
  refine (HNN.out _ HS.out.g).mono ?_
  rintro e w1 ⟨rfl, hb1⟩
  replace HS := hide (HS.out.below hb1)
  clear hb1
  clear lh ll
  have lh := HS.out.wa.h
  have ll := HS.out.wa.l
  go_wp2_with fail
  refine (HFR.out _ HS.out.g).mono ?_
  rintro e w2 ⟨rfl, hb2⟩
  replace HS := hide (HS.out.below hb2)
  clear hb2
  clear lh ll
  go_upto_region 4 with fail
  refine wp_gen (fun W => PySt a w W ∧ LiesF W w2.heap.size (dgl r) ∧ ∀ i, W.frozen? ⟨w2.heap.size, i, none⟩ = false) ⟨HS.out.below (below_allocs _ _), liesF_new _ _ _, fun i => by simp [go_sem]⟩ ?_
  have HP := hide (show w.heap.size + 1 + 1 ≤ w2.heap.size from HS.out.lt)
  clear HS
  generalize w2.heap.size = p6 at *
  rintro W3 ⟨g1, g2, g3⟩
  have HS := hide g1
  have HL := hide g2
  have HZ := hide g3
  clear g1 g2 g3
  have lh := HS.out.wa.h
  have ll := HS.out.wa.l
  go_wp2_with fail
  refine (HOF.out _ HS.out.g).mono ?_
  rintro e w3 ⟨rfl, hb3⟩
  replace HS := hide (HS.out.below hb3)
  replace HZ := hide (show ∀ i, w3.frozen? ⟨p6, i, none⟩ = false from fun i => (hb3.frozen (p := ⟨p6, i, none⟩) HL.out.2).trans (HZ.out i))
  replace HL := hide (HL.out.below hb3)
  clear hb3
  clear lh ll
  have hcl1 : ((cl : Int) == 2) = true := by rw [hcl]; rfl
  go_upto_region 5 with fail
  refine wp_gen (fun W => PySt a w W ∧ LiesF W p6 (dgl r) ∧ ∀ i, W.frozen? ⟨p6, i, none⟩ = false) ⟨HS.out, HL.out, HZ.out⟩ ?_
  clear HS HL HZ hcl1
  rintro W5 ⟨h5, h6, h7⟩
  refine wp_region_storeK 8 [7] [20, 21, 22, 23, 19, 24, 25] (fun bs => [(20, .val (.agg #[.int .u64 (dgl (r) 0 : Nat), .int .u64 (dgl (r) 1 : Nat), .int .u64 (dgl (r) 2 : Nat), .int .u64 (dgl (r) 3 : Nat), .int .u64 (dgl (r) 4 : Nat), .int .u64 (dgl (r) 5 : Nat), .int .u64 (dgl (r) 6 : Nat), .int .u64 (dgl (r) 7 : Nat)])), (21, .val (.int .i64 f)), (22, .val (.agg #[.int .u64 (dgl (q) 0 : Nat), .int .u64 (dgl (q) 1 : Nat), .int .u64 (dgl (q) 2 : Nat), .int .u64 (dgl (q) 3 : Nat), .int .u64 (dgl (q) 4 : Nat), .int .u64 (dgl (q) 5 : Nat), .int .u64 (dgl (q) 6 : Nat), .int .u64 (dgl (q) 7 : Nat)])), (23, .val (.tuple #[.agg #[.int .u64 (dgl (s) 0 : Nat), .int .u64 (dgl (s) 1 : Nat), .int .u64 (dgl (s) 2 : Nat), .int .u64 (dgl (s) 3 : Nat), .int .u64 (dgl (s) 4 : Nat), .int .u64 (dgl (s) 5 : Nat), .int .u64 (dgl (s) 6 : Nat), .int .u64 (dgl (s) 7 : Nat)], .bool ov])), (19, .val (.tuple #[.agg #[.int .u64 (dgl (s) 0 : Nat), .int .u64 (dgl (s) 1 : Nat), .int .u64 (dgl (s) 2 : Nat), .int .u64 (dgl (s) 3 : Nat), .int .u64 (dgl (s) 4 : Nat), .int .u64 (dgl (s) 5 : Nat), .int .u64 (dgl (s) 6 : Nat), .int .u64 (dgl (s) 7 : Nat)], .bool ov])), (24, .val (.agg #[.int .u64 (dgl (s) 0 : Nat), .int .u64 (dgl (s) 1 : Nat), .int .u64 (dgl (s) 2 : Nat), .int .u64 (dgl (s) 3 : Nat), .int .u64 (dgl (s) 4 : Nat), .int .u64 (dgl (s) 5 : Nat), .int .u64 (dgl (s) 6 : Nat), .int .u64 (dgl (s) 7 : Nat)])), (25, .val (.bool ov))])
    (fun bs W => PySt a w W ∧ (∀ c, bs.headD false = c → LiesF W p6 (dgl (bif c then s else r))) ∧ ∀ i, W.frozen? ⟨p6, i, none⟩ = false) (fun bs => rfl) mixedOk (by kernel_rfl) (by kernel_rfl) (by kernel_rfl) (⟨h5.below (Below.refl _ _).drew, fun c hc => by subst hc; exact h6.below (Below.refl _ _).drew, fun i => (Below.refl _ _).drew.frozen (p := ⟨p6, i, none⟩) h6.2 |>.trans (h7 i)⟩) (fun bs W W' h hb => ⟨h.1.below hb, fun c hq => (h.2.1 c hq).below hb, fun i => (hb.frozen (p := ⟨p6, i, none⟩) (h.2.1 _ rfl).2).trans (h.2.2 i)⟩) ?_ ?_
  · refine kSt rfl (fun φ hφ => gStep_run rfl ?_) ?_
    · intro ρ W hC hc hf hL
      have e6 : ρ (.tmp 6) = .pointer (some ⟨p6, 0, none⟩) := hL 6 (by decide +kernel)
      have hφ0 : φ 7 = false := hφ 7 (by simp) (by kernel_rfl)
      have hD : LiesF W p6 (dgl r) := hC.2.1 false hφ0
      have hl := hD.1
      simp [go_sem, hc, hf, e6, hl]
      exact ⟨Below.refl _ _, rfl⟩
    refine kSt rfl (fun φ hφ => gStep_run rfl (gRun_move 0 21 (.inl rfl) rfl (by decide +kernel) (fun v w h => h))) ?_
    refine kSt rfl (fun φ hφ => gStep_run rfl ?_) ?_
    · intro ρ W hC hc hf hL
      have e21 : ρ (.tmp 21) = .int .i64 f := hL 21 (by decide +kernel)
      simp [go_sem, hc, hf, e21]
      refine (HQB.out W hC.1.g).mono ?_
      rintro e w' ⟨rfl, hb⟩
      exact ⟨_, rfl, by first | exact hb | (subst hb; exact Below.refl _ _), rfl⟩
    refine kSt rfl (fun φ hφ => gStep_run rfl ?_) ?_
    · intro ρ W hC hc hf hL
      have e20 : ρ (.tmp 20) = .agg #[.int .u64 (dgl (r) 0 : Nat), .int .u64 (dgl (r) 1 : Nat), .int .u64 (dgl (r) 2 : Nat), .int .u64 (dgl (r) 3 : Nat), .int .u64 (dgl (r) 4 : Nat), .int .u64 (dgl (r) 5 : Nat), .int .u64 (dgl (r) 6 : Nat), .int .u64 (dgl (r) 7 : Nat)] := hL 20 (by decide +kernel)
      have e22 : ρ (.tmp 22) = .agg #[.int .u64 (dgl (q) 0 : Nat), .int .u64 (dgl (q) 1 : Nat), .int .u64 (dgl (q) 2 : Nat), .int .u64 (dgl (q) 3 : Nat), .int .u64 (dgl (q) 4 : Nat), .int .u64 (dgl (q) 5 : Nat), .int .u64 (dgl (q) 6 : Nat), .int .u64 (dgl (q) 7 : Nat)] := hL 22 (by decide +kernel)
      simp [go_sem, hc, hf, e20, e22]
      refine (HSU.out W).mono ?_
      rintro e w' ⟨rfl, hb⟩
      exact ⟨_, rfl, by first | exact hb | (subst hb; exact Below.refl _ _), rfl⟩
    refine kSt rfl (fun φ hφ => gStep_run rfl (gRun_move 23 19 (.inl rfl) rfl (by decide +kernel) (fun v w h => h))) ?_
    refine kSt rfl (fun φ hφ => gStep_run rfl ?_) ?_
    · intro ρ W hC hc hf hL
      have e19 : ρ (.tmp 19) = .tuple #[.agg #[.int .u64 (dgl (s) 0 : Nat), .int .u64 (dgl (s) 1 : Nat), .int .u64 (dgl (s) 2 : Nat), .int .u64 (dgl (s) 3 : Nat), .int .u64 (dgl (s) 4 : Nat), .int .u64 (dgl (s) 5 : Nat), .int .u64 (dgl (s) 6 : Nat), .int .u64 (dgl (s) 7 : Nat)], .bool ov] := hL 19 (by decide +kernel)
      simp [go_sem, hc, hf, e19]
      exact ⟨Below.refl _ _, rfl⟩
    refine kSt rfl (fun φ hφ => gStep_run rfl ?_) ?_
    · intro ρ W hC hc hf hL
      have e19 : ρ (.tmp 19) = .tuple #[.agg #[.int .u64 (dgl (s) 0 : Nat), .int .u64 (dgl (s) 1 : Nat), .int .u64 (dgl (s) 2 : Nat), .int .u64 (dgl (s) 3 : Nat), .int .u64 (dgl (s) 4 : Nat), .int .u64 (dgl (s) 5 : Nat), .int .u64 (dgl (s) 6 : Nat), .int .u64 (dgl (s) 7 : Nat)], .bool ov] := hL 19 (by decide +kernel)
      simp [go_sem, hc, hf, e19]
      exact ⟨Below.refl _ _, rfl⟩
    refine kStS rfl ⟨rfl, rfl, ?_⟩ ?_
    · intro φ ρ W hφ hC hc hL
      have e6 : ρ (.tmp 6) = .pointer (some ⟨p6, 0, none⟩) := hL 6 (by decide +kernel)
      have e24 : ρ (.tmp 24) = .agg #[.int .u64 (dgl (s) 0 : Nat), .int .u64 (dgl (s) 1 : Nat), .int .u64 (dgl (s) 2 : Nat), .int .u64 (dgl (s) 3 : Nat), .int .u64 (dgl (s) 4 : Nat), .int .u64 (dgl (s) 5 : Nat), .int .u64 (dgl (s) 6 : Nat), .int .u64 (dgl (s) 7 : Nat)] := hL 24 (by decide +kernel)
      have hD : LiesF W p6 (dgl r) := hC.2.1 false hφ
      have hr := hD.1
      have hrl := hD.2
      have hrf := hC.2.2
      refine gUpon_of ((((((((W.setCell ⟨p6, 0, none⟩ (.int .u64 (dgl s 0 : Nat))).setCell ⟨p6, 1, none⟩ (.int .u64 (dgl s 1 : Nat))).setCell ⟨p6, 2, none⟩ (.int .u64 (dgl s 2 : Nat))).setCell ⟨p6, 3, none⟩ (.int .u64 (dgl s 3 : Nat))).setCell ⟨p6, 4, none⟩ (.int .u64 (dgl s 4 : Nat))).setCell ⟨p6, 5, none⟩ (.int .u64 (dgl s 5 : Nat))).setCell ⟨p6, 6, none⟩ (.int .u64 (dgl s 6 : Nat))).setCell ⟨p6, 7, none⟩ (.int .u64 (dgl s 7 : Nat))) ?_ (fun _ => ?_)
      · simp [go_sem, hc, e6, e24, hr, hrl, hrf, gUpon]
      have hs8 := below_set8 (Below.refl (w.heap.size + 1 + 1) W) p6 HP.out (.int .u64 (dgl s 0 : Nat)) (.int .u64 (dgl s 1 : Nat)) (.int .u64 (dgl s 2 : Nat)) (.int .u64 (dgl s 3 : Nat)) (.int .u64 (dgl s 4 : Nat)) (.int .u64 (dgl s 5 : Nat)) (.int .u64 (dgl s 6 : Nat)) (.int .u64 (dgl s 7 : Nat))
      refine ⟨⟨hC.1.under hs8 (by omega), fun b hb => ?_, fun i => by simpa [go_sem] using hrf i⟩, fun t => (tbl_imp rfl (fun _ => val_imp) (tbl_imp rfl (fun _ => val_imp) (tbl_imp rfl (fun _ => val_imp) (tbl_imp rfl (fun _ => val_imp) (tbl_imp rfl (fun _ => val_imp) (tbl_imp rfl (fun _ => val_imp) (tbl_imp rfl (fun _ => val_imp) tbl_nil_imp)))))))⟩
      have hb2 : (φ 7 || true) = b := hb
      rw [Bool.or_true] at hb2
      subst hb2
      exact set8_same W p6 (dgl s) (dgl r) hD
    exact kSt0
  · intro W hC
    refine gFi 20 rfl ?_
    rintro _ rfl
    refine gFi 21 rfl ?_
    rintro _ rfl
    refine gFi 22 rfl ?_
    rintro _ rfl
    refine gFi 23 rfl ?_
    rintro _ rfl
    refine gFi 19 rfl ?_
    rintro _ rfl
    refine gFi 24 rfl ?_
    rintro _ rfl
    refine gFi 25 rfl ?_
    rintro _ rfl
    refine gFiN rfl ?_
    refine gFi0 ?_
    simp only [List.drop_succ_cons, List.drop_zero, Act.put, List.setIfInBounds_toArray, List.set_cons_succ, List.set_cons_zero]
    have HL : Hid (LiesF W p6 (dgl s)) := hC.2.1 true rfl
    have HS := hide hC.1
    clear hC h5 h6 h7
    have z := HS.out.r.1
    have hrf := HS.out.fr
    have hlt := HS.out.lt
    have HB := hide HS.out.bel
    have y := HL.out.1
    clear HS HL
    go_wp2
    exact bodyPost_ret (v := .tuple #[.agg #[.int .u64 (dgl (s) 0 : Nat), .int .u64 (dgl (s) 1 : Nat), .int .u64 (dgl (s) 2 : Nat), .int .u64 (dgl (s) 3 : Nat), .int .u64 (dgl (s) 4 : Nat), .int .u64 (dgl (s) 5 : Nat), .int .u64 (dgl (s) 6 : Nat), .int .u64 (dgl (s) 7 : Nat)], .bool true]) (by simp [results, Tryd.results44, go_sem, hlt, z]) rfl ⟨rfl, below_set8 HB.out _ (Nat.le_succ _) _ _ _ _ _ _ _ _⟩
    
structure NwSt (s : Nat) (w W : World) : Prop where
  g : FmtG W
  gl : 1 < w.heap.size
  la : LiesF W (w.heap.size) (dgl s)
  r : WB W (w.heap.size + 1) (0) (0)
  fr : ∀ i, W.frozen? ⟨w.heap.size + 1, i, none⟩ = false
  lt : w.heap.size + 1 < W.heap.size
  bel : Below w.heap.size w W
theorem NwSt.under {s : Nat} {w W W' : World} (h : NwSt s w W) {C : Nat} (hb : Below C W W') (hc : w.heap.size + 1 < C) : NwSt s w W' :=
  ⟨⟨fun i hi => (hb.cell (p := ⟨1, i, none⟩) (show 1 < C by have := h.gl; omega)).trans (h.g.c i hi), Nat.lt_of_lt_of_le h.g.lt hb.size⟩, h.gl, lies_box h.la hb (show w.heap.size < C by omega), h.r.under hb (show w.heap.size + 1 < C by omega), fun i => (hb.frozen (p := ⟨w.heap.size + 1, i, none⟩) (show w.heap.size + 1 < C by omega)).trans (h.fr i), Nat.lt_of_lt_of_le h.lt hb.size, h.bel.trans (hb.mono (by omega))⟩
theorem NwSt.below {s : Nat} {w W W' : World} (h : NwSt s w W) (hb : Below W.heap.size W W') : NwSt s w W' := h.under hb h.lt
theorem nwSt_start (s : Nat) (w : World) (hg : FmtG w) : NwSt s w ((w.alloc (.cells #[.int .u64 (dgl (s) 0 : Nat), .int .u64 (dgl (s) 1 : Nat), .int .u64 (dgl (s) 2 : Nat), .int .u64 (dgl (s) 3 : Nat), .int .u64 (dgl (s) 4 : Nat), .int .u64 (dgl (s) 5 : Nat), .int .u64 (dgl (s) 6 : Nat), .int .u64 (dgl (s) 7 : Nat)] 24)).alloc (.cells #[.int .u64 0, .int .u64 0] 28)) :=
  ⟨(hg.below (below_allocs _ _)).below (below_allocs _ _), hg.lt, (liesF_new w (dgl s) 24).below (below_allocs _ _), ⟨by simp [go_sem], by simp [go_sem], by simp⟩, fun i => by simp [go_sem], by simp, below_trans (below_allocs _ _) (below_allocs _ _)⟩

set_option maxHeartbeats 4000000 in
theorem with_N (f z : Int) (neg ov : Bool) (k : Nat → Int) (s q t a b ln : Nat)
    (HO : Hid (∀ w, FmtG w → Calls Tryd.prog 47 #[.int .i64 f] w fun e w' => e = .returned (.tuple #[.agg #[.int .i64 (k 0), .int .i64 (k 1), .int .i64 (k 2), .int .i64 (k 3), .int .i64 (k 4)], .bool false]) ∧ Below w.heap.size w w')) (w : World) (hg : FmtG w) :
    Calls Tryd.prog 45 #[.int .i64 f, .bool neg, .agg #[.int .u64 (dgl (s) 0 : Nat), .int .u64 (dgl (s) 1 : Nat), .int .u64 (dgl (s) 2 : Nat), .int .u64 (dgl (s) 3 : Nat), .int .u64 (dgl (s) 4 : Nat), .int .u64 (dgl (s) 5 : Nat), .int .u64 (dgl (s) 6 : Nat), .int .u64 (dgl (s) 7 : Nat)]] w fun e w' => e = .returned (.tuple #[.agg #[.int .u64 0, .int .u64 0], .bool false]) ∧ Below w.heap.size w w' := by
  have HS := hide (nwSt_start s w hg)
  clear hg
  go_enter Tryd.func45, Tryd.ntmps45
  go_upto_region 1 with fail
  refine wp_gen (fun W => NwSt s w W) HS.out ?_
  clear HS
  rintro W1 h1
  have HS := hide h1
  clear h1
  go_wp2_with fail
  refine (HO.out _ HS.out.g).mono ?_
  rintro e w1 ⟨rfl, hb1⟩
  replace HS := hide (HS.out.below hb1)
  clear hb1
  go_upto_region 2 with fail
  refine wp_gen (fun W => NwSt s w W ∧ ∀ i, i < 5 → W.cell? ⟨w1.heap.size, i, none⟩ = some (.int .i64 (k i))) ⟨HS.out.below (below_allocs _ _), fun i hi => rec5_new w1 k _ i hi⟩ ?_
  have HP := hide (show w.heap.size + 1 + 1 ≤ w1.heap.size from HS.out.lt)
  clear HS
  generalize w1.heap.size = p8 at *
  rintro W2 h2
  refine wp_region_grow 10 [(17, .val (.bool false)), (18, .val (.bool true)), (19, .val (.bool true)), (20, .val (undef)), (21, .val (undef)), (22, .val (undef)), (23, .val (undef)), (24, .val (undef)), (25, .val (undef)), (26, .val (.bool true))]
    (fun W => NwSt s w W ∧ ∀ i, i < 5 → W.cell? ⟨p8, i, none⟩ = some (.int .i64 (k i))) mixedOk (by kernel_rfl) (by kernel_rfl) (⟨h2.1.below (Below.refl _ _).drew, fun i hi => ((Below.refl _ _).drew.cell (p := ⟨p8, i, none⟩) (cell_lt (h2.2 i hi))).trans (h2.2 i hi)⟩) (fun W W' h hb => ⟨h.1.below hb, fun i hi => (hb.cell (p := ⟨p8, i, none⟩) (cell_lt (h.2 i hi))).trans (h.2 i hi)⟩) ?_ ?_
  · refine gSt (gStep_run rfl (gRun_move 9 17 (.inl rfl) rfl (by decide +kernel) (fun v w h => h))) ?_
    refine gSt (gStep_run rfl ?_) ?_
    · intro ρ W hC hc hf hL
      have e17 : ρ (.tmp 17) = .bool false := hL 17 (by decide +kernel)
      simp [go_sem, hc, hf, e17]
      exact ⟨Below.refl _ _, rfl⟩
    refine gSt (gStep_run rfl (gRun_move 18 19 (.inl rfl) rfl (by decide +kernel) (fun v w h => h))) ?_
    refine gSt (gStep_off 2 19 false rfl rfl (by decide +kernel) (fun v w h => h) (fun w => rfl)) ?_
    refine gSt (gStep_off 2 19 false rfl rfl (by decide +kernel) (fun v w h => h) (fun w => rfl)) ?_
    refine gSt (gStep_off 2 19 false rfl rfl (by decide +kernel) (fun v w h => h) (fun w => rfl)) ?_
    refine gSt (gStep_off 2 19 false rfl rfl (by decide +kernel) (fun v w h => h) (fun w => rfl)) ?_
    refine gSt (gStep_off 2 19 false rfl rfl (by decide +kernel) (fun v w h => h) (fun w => rfl)) ?_
    refine gSt (gStep_off 2 19 false rfl rfl (by decide +kernel) (fun v w h => h) (fun w => rfl)) ?_
    refine gSt (gStep_run rfl (gRun_pickCT 19 26 _ _ rfl rfl (by decide +kernel) (fun v w h => h) (fun w => rfl))) ?_
    exact gSt0
  · intro W hC
    refine gFi 17 rfl ?_
    rintro _ rfl
    refine gFi 18 rfl ?_
    rintro _ rfl
    refine gFi 19 rfl ?_
    rintro _ rfl
    refine gFi 20 rfl ?_
    rintro _ rfl
    refine gFi 21 rfl ?_
    rintro _ rfl
    refine gFi 22 rfl ?_
    rintro _ rfl
    refine gFi 23 rfl ?_
    rintro _ rfl
    refine gFi 24 rfl ?_
    rintro _ rfl
    refine gFi 25 rfl ?_
    rintro _ rfl
    refine gFi 26 rfl ?_
    rintro _ rfl
    refine gFi0 ?_
    simp only [List.drop_succ_cons, List.drop_zero, Act.put, List.setIfInBounds_toArray, List.set_cons_succ, List.set_cons_zero]
    have HS := hide hC.1
    clear hC h2
    have rh := HS.out.r.h
    have rl := HS.out.r.l
    have hrf := HS.out.fr
    have hlt9 := HS.out.lt
    have HB := hide HS.out.bel
    clear HS
    go_wp2
    exact bodyPost_ret (v := .tuple #[.agg #[.int .u64 0, .int .u64 0], .bool false]) (by simp [results, Tryd.results45, go_sem, hlt9, rh, rl]) rfl ⟨rfl, (HB.out.setCell (p := ⟨w.heap.size + 1, 0, none⟩) (Nat.le_succ _) _).setCell (p := ⟨w.heap.size + 1, 1, none⟩) (Nat.le_succ _) _⟩
    

set_option maxHeartbeats 4000000 in
theorem with_L (f z : Int) (neg ov : Bool) (k : Nat → Int) (s q t a b ln : Nat)
    (HO : Hid (∀ w, FmtG w → Calls Tryd.prog 47 #[.int .i64 f] w fun e w' => e = .returned (.tuple #[.agg #[.int .i64 (k 0), .int .i64 (k 1), .int .i64 (k 2), .int .i64 (k 3), .int .i64 (k 4)], .bool true]) ∧ Below w.heap.size w w'))
    (HLN : Hid (∀ w, Calls Tryd.prog 52 #[.agg #[.int .u64 (dgl (s) 0 : Nat), .int .u64 (dgl (s) 1 : Nat), .int .u64 (dgl (s) 2 : Nat), .int .u64 (dgl (s) 3 : Nat), .int .u64 (dgl (s) 4 : Nat), .int .u64 (dgl (s) 5 : Nat), .int .u64 (dgl (s) 6 : Nat), .int .u64 (dgl (s) 7 : Nat)]] w fun e w' => e = .returned (.int .i64 (ln : Nat)) ∧ Below w.heap.size w w'))
    (hk : -1000 ≤ k 1 ∧ k 1 ≤ 1000)
    (hlt : k 1 - 2 < (ln : Int)) (w : World) (hg : FmtG w) :
    Calls Tryd.prog 45 #[.int .i64 f, .bool neg, .agg #[.int .u64 (dgl (s) 0 : Nat), .int .u64 (dgl (s) 1 : Nat), .int .u64 (dgl (s) 2 : Nat), .int .u64 (dgl (s) 3 : Nat), .int .u64 (dgl (s) 4 : Nat), .int .u64 (dgl (s) 5 : Nat), .int .u64 (dgl (s) 6 : Nat), .int .u64 (dgl (s) 7 : Nat)]] w fun e w' => e = .returned (.tuple #[.agg #[.int .u64 0, .int .u64 0], .bool false]) ∧ Below w.heap.size w w' := by
  have HS := hide (nwSt_start s w hg)
  clear hg
  go_enter Tryd.func45, Tryd.ntmps45
  go_upto_region 1 with fail
  refine wp_gen (fun W => NwSt s w W) HS.out ?_
  clear HS
  rintro W1 h1
  have HS := hide h1
  clear h1
  go_wp2_with fail
  refine (HO.out _ HS.out.g).mono ?_
  rintro e w1 ⟨rfl, hb1⟩
  replace HS := hide (HS.out.below hb1)
  clear hb1
  go_upto_region 2 with fail
  refine wp_gen (fun W => NwSt s w W ∧ ∀ i, i < 5 → W.cell? ⟨w1.heap.size, i, none⟩ = some (.int .i64 (k i))) ⟨HS.out.below (below_allocs _ _), fun i hi => rec5_new w1 k _ i hi⟩ ?_
  have HP := hide (show w.heap.size + 1 + 1 ≤ w1.heap.size from HS.out.lt)
  clear HS
  generalize w1.heap.size = p8 at *
  rintro W2 h2
  have hlt2 : decide (k 1 - 2 < (ln : Int)) = true := decide_eq_true hlt
  refine wp_region_grow 10 [(17, .val (.bool true)), (18, .val (.bool false)), (19, .val (.bool false)), (20, .val (.agg #[.int .u64 (dgl (s) 0 : Nat), .int .u64 (dgl (s) 1 : Nat), .int .u64 (dgl (s) 2 : Nat), .int .u64 (dgl (s) 3 : Nat), .int .u64 (dgl (s) 4 : Nat), .int .u64 (dgl (s) 5 : Nat), .int .u64 (dgl (s) 6 : Nat), .int .u64 (dgl (s) 7 : Nat)])), (21, .val (.int .i64 (ln : Nat))), (22, .val (.pointer (some ⟨p8, 1, none⟩))), (23, .val (.int .i64 (k 1))), (24, .val (.int .i64 (k 1 - 2))), (25, .val (.bool true)), (26, .val (.bool true))]
    (fun W => NwSt s w W ∧ ∀ i, i < 5 → W.cell? ⟨p8, i, none⟩ = some (.int .i64 (k i))) mixedOk (by kernel_rfl) (by kernel_rfl) (⟨h2.1.below (Below.refl _ _).drew, fun i hi => ((Below.refl _ _).drew.cell (p := ⟨p8, i, none⟩) (cell_lt (h2.2 i hi))).trans (h2.2 i hi)⟩) (fun W W' h hb => ⟨h.1.below hb, fun i hi => (hb.cell (p := ⟨p8, i, none⟩) (cell_lt (h.2 i hi))).trans (h.2 i hi)⟩) ?_ ?_
  · refine gSt (gStep_run rfl (gRun_move 9 17 (.inl rfl) rfl (by decide +kernel) (fun v w h => h))) ?_
    refine gSt (gStep_run rfl ?_) ?_
    · intro ρ W hC hc hf hL
      have e17 : ρ (.tmp 17) = .bool true := hL 17 (by decide +kernel)
      simp [go_sem, hc, hf, e17]
      exact ⟨Below.refl _ _, rfl⟩
    refine gSt (gStep_run rfl (gRun_move 18 19 (.inl rfl) rfl (by decide +kernel) (fun v w h => h))) ?_
    refine gSt (gStep_on 2 19 false rfl rfl (by decide +kernel) (fun v w h => h) ?_) ?_
    · intro ρ W hC hc hf hL
      have e5 : ρ (.tmp 5) = .pointer (some ⟨w.heap.size, 0, none⟩) := hL 5 (by decide +kernel)
      have hl := hC.1.la.1
      simp [go_sem, hc, hf, e5, hl]
      exact ⟨Below.refl _ _, rfl⟩
    refine gSt (gStep_on 2 19 false rfl rfl (by decide +kernel) (fun v w h => h) ?_) ?_
    · intro ρ W hC hc hf hL
      have e20 : ρ (.tmp 20) = .agg #[.int .u64 (dgl (s) 0 : Nat), .int .u64 (dgl (s) 1 : Nat), .int .u64 (dgl (s) 2 : Nat), .int .u64 (dgl (s) 3 : Nat), .int .u64 (dgl (s) 4 : Nat), .int .u64 (dgl (s) 5 : Nat), .int .u64 (dgl (s) 6 : Nat), .int .u64 (dgl (s) 7 : Nat)] := hL 20 (by decide +kernel)
      simp [go_sem, hc, hf, e20]
      refine (HLN.out W).mono ?_
      rintro e w' ⟨rfl, hb⟩
      exact ⟨_, rfl, by first | exact hb | (subst hb; exact Below.refl _ _), rfl⟩
    refine gSt (gStep_on 2 19 false rfl rfl (by decide +kernel) (fun v w h => h) ?_) ?_
    · intro ρ W hC hc hf hL
      have e8 : ρ (.tmp 8) = .pointer (some ⟨p8, 0, none⟩) := hL 8 (by decide +kernel)
      simp [go_sem, hc, hf, e8]
      exact ⟨Below.refl _ _, rfl⟩
    refine gSt (gStep_on 2 19 false rfl rfl (by decide +kernel) (fun v w h => h) ?_) ?_
    · intro ρ W hC hc hf hL
      have e22 : ρ (.tmp 22) = .pointer (some ⟨p8, 1, none⟩) := hL 22 (by decide +kernel)
      have hk1 := hC.2 1 (by decide)
      simp [go_sem, hc, hf, e22, hk1]
      exact ⟨Below.refl _ _, rfl⟩
    refine gSt (gStep_on 2 19 false rfl rfl (by decide +kernel) (fun v w h => h) ?_) ?_
    · intro ρ W hC hc hf hL
      have e23 : ρ (.tmp 23) = .int .i64 (k 1) := hL 23 (by decide +kernel)
      have hw2 : IntKind.i64.wrap (k 1 - 2) = k 1 - 2 := by rw [IntKind.wrap_i64]; omega
      simp [go_sem, hc, hf, e23, hw2]
      exact ⟨Below.refl _ _, rfl⟩
    refine gSt (gStep_on 2 19 false rfl rfl (by decide +kernel) (fun v w h => h) ?_) ?_
    · intro ρ W hC hc hf hL
      have e21 : ρ (.tmp 21) = .int .i64 (ln : Nat) := hL 21 (by decide +kernel)
      have e24 : ρ (.tmp 24) = .int .i64 (k 1 - 2) := hL 24 (by decide +kernel)
      simp [go_sem, hc, hf, e21, e24, hlt2, hlt]
      exact ⟨Below.refl _ _, rfl⟩
    refine gSt (gStep_run rfl (gRun_pickCF 19 25 26 _ rfl rfl (by decide +kernel) (by decide +kernel) (fun v w h => h) (fun v w h => h))) ?_
    exact gSt0
  · intro W hC
    refine gFi 17 rfl ?_
    rintro _ rfl
    refine gFi 18 rfl ?_
    rintro _ rfl
    refine gFi 19 rfl ?_
    rintro _ rfl
    refine gFi 20 rfl ?_
    rintro _ rfl
    refine gFi 21 rfl ?_
    rintro _ rfl
    refine gFi 22 rfl ?_
    rintro _ rfl
    refine gFi 23 rfl ?_
    rintro _ rfl
    refine gFi 24 rfl ?_
    rintro _ rfl
    refine gFi 25 rfl ?_
    rintro _ rfl
    refine gFi 26 rfl ?_
    rintro _ rfl
    refine gFi0 ?_
    simp only [List.drop_succ_cons, List.drop_zero, Act.put, List.setIfInBounds_toArray, List.set_cons_succ, List.set_cons_zero]
    have HS := hide hC.1
    clear hC h2
    have rh := HS.out.r.h
    have rl := HS.out.r.l
    have hrf := HS.out.fr
    have hlt9 := HS.out.lt
    have HB := hide HS.out.bel
    clear HS
    go_wp2
    exact bodyPost_ret (v := .tuple #[.agg #[.int .u64 0, .int .u64 0], .bool false]) (by simp [results, Tryd.results45, go_sem, hlt9, rh, rl]) rfl ⟨rfl, (HB.out.setCell (p := ⟨w.heap.size + 1, 0, none⟩) (Nat.le_succ _) _).setCell (p := ⟨w.heap.size + 1, 1, none⟩) (Nat.le_succ _) _⟩
    

set_option maxHeartbeats 4000000 in
theorem with_Y (f z : Int) (neg ov : Bool) (k : Nat → Int) (s q t a b ln : Nat)
    (HO : Hid (∀ w, FmtG w → Calls Tryd.prog 47 #[.int .i64 f] w fun e w' => e = .returned (.tuple #[.agg #[.int .i64 (k 0), .int .i64 (k 1), .int .i64 (k 2), .int .i64 (k 3), .int .i64 (k 4)], .bool true]) ∧ Below w.heap.size w w'))
    (HLN : Hid (∀ w, Calls Tryd.prog 52 #[.agg #[.int .u64 (dgl (s) 0 : Nat), .int .u64 (dgl (s) 1 : Nat), .int .u64 (dgl (s) 2 : Nat), .int .u64 (dgl (s) 3 : Nat), .int .u64 (dgl (s) 4 : Nat), .int .u64 (dgl (s) 5 : Nat), .int .u64 (dgl (s) 6 : Nat), .int .u64 (dgl (s) 7 : Nat)]] w fun e w' => e = .returned (.int .i64 (ln : Nat)) ∧ Below w.heap.size w w'))
    (hk : -1000 ≤ k 1 ∧ k 1 ≤ 1000)
    (hlt : (ln : Int) ≤ k 1 - 2)
    (HQB : Hid (∀ w, FmtG w → Calls Tryd.prog 99 #[.int .i64 f] w fun e w' => e = .returned (.agg #[.int .u64 (dgl (q) 0 : Nat), .int .u64 (dgl (q) 1 : Nat), .int .u64 (dgl (q) 2 : Nat), .int .u64 (dgl (q) 3 : Nat), .int .u64 (dgl (q) 4 : Nat), .int .u64 (dgl (q) 5 : Nat), .int .u64 (dgl (q) 6 : Nat), .int .u64 (dgl (q) 7 : Nat)]) ∧ Below w.heap.size w w'))
    (HAD : Hid (∀ w, Calls Tryd.prog 100 #[.agg #[.int .u64 (dgl (s) 0 : Nat), .int .u64 (dgl (s) 1 : Nat), .int .u64 (dgl (s) 2 : Nat), .int .u64 (dgl (s) 3 : Nat), .int .u64 (dgl (s) 4 : Nat), .int .u64 (dgl (s) 5 : Nat), .int .u64 (dgl (s) 6 : Nat), .int .u64 (dgl (s) 7 : Nat)], .agg #[.int .u64 (dgl (q) 0 : Nat), .int .u64 (dgl (q) 1 : Nat), .int .u64 (dgl (q) 2 : Nat), .int .u64 (dgl (q) 3 : Nat), .int .u64 (dgl (q) 4 : Nat), .int .u64 (dgl (q) 5 : Nat), .int .u64 (dgl (q) 6 : Nat), .int .u64 (dgl (q) 7 : Nat)]] w fun e w' => e = .returned (.tuple #[.agg #[.int .u64 (dgl (t) 0 : Nat), .int .u64 (dgl (t) 1 : Nat), .int .u64 (dgl (t) 2 : Nat), .int .u64 (dgl (t) 3 : Nat), .int .u64 (dgl (t) 4 : Nat), .int .u64 (dgl (t) 5 : Nat), .int .u64 (dgl (t) 6 : Nat), .int .u64 (dgl (t) 7 : Nat)], .bool ov]) ∧ Below w.heap.size w w'))
    (HNA : Hid (∀ w, FmtG w → Calls Tryd.prog 93 #[.int .i64 f] w fun e w' => e = .returned (.agg #[.int .u64 (dgl (a) 1 : Nat), .int .u64 (dgl (a) 0 : Nat)]) ∧ Below w.heap.size w w'))
    (HFD : Hid (∀ w, FmtG w → Calls Tryd.prog 101 #[.int .i64 f, .agg #[.int .u64 (dgl (a) 1 : Nat), .int .u64 (dgl (a) 0 : Nat)]] w fun e w' => e = .returned (.int .i64 z) ∧ Below w.heap.size w w'))
    (HMK : Hid (∀ w, FmtG w → Calls Tryd.prog 53 #[.int .i64 f, .bool neg, .int .i64 z, .agg #[.int .u64 (dgl (t) 0 : Nat), .int .u64 (dgl (t) 1 : Nat), .int .u64 (dgl (t) 2 : Nat), .int .u64 (dgl (t) 3 : Nat), .int .u64 (dgl (t) 4 : Nat), .int .u64 (dgl (t) 5 : Nat), .int .u64 (dgl (t) 6 : Nat), .int .u64 (dgl (t) 7 : Nat)]] w fun e w' => e = .returned (.tuple #[.agg #[.int .u64 (dgl (b) 1 : Nat), .int .u64 (dgl (b) 0 : Nat)], .bool true]) ∧ Below w.heap.size w w')) (w : World) (hg : FmtG w) :
    Calls Tryd.prog 45 #[.int .i64 f, .bool neg, .agg #[.int .u64 (dgl (s) 0 : Nat), .int .u64 (dgl (s) 1 : Nat), .int .u64 (dgl (s) 2 : Nat), .int .u64 (dgl (s) 3 : Nat), .int .u64 (dgl (s) 4 : Nat), .int .u64 (dgl (s) 5 : Nat), .int .u64 (dgl (s) 6 : Nat), .int .u64 (dgl (s) 7 : Nat)]] w fun e w' => e = .returned (.tuple #[.agg #[.int .u64 (dgl (b) 1 : Nat), .int .u64 (dgl (b) 0 : Nat)], .bool true]) ∧ Below w.heap.size w w' := by
  have HS := hide (nwSt_start s w hg)
  clear hg
  go_enter Tryd.func45, Tryd.ntmps45
  go_upto_region 1 with fail
  refine wp_gen (fun W => NwSt s w W) HS.out ?_
  clear HS
  rintro W1 h1
  have HS := hide h1
  clear h1
  go_wp2_with fail
  refine (HO.out _ HS.out.g).mono ?_
  rintro e w1 ⟨rfl, hb1⟩
  replace HS := hide (HS.out.below hb1)
  clear hb1
  go_upto_region 2 with fail
  refine wp_gen (fun W => NwSt s w W ∧ ∀ i, i < 5 → W.cell? ⟨w1.heap.size, i, none⟩ = some (.int .i64 (k i))) ⟨HS.out.below (below_allocs _ _), fun i hi => rec5_new w1 k _ i hi⟩ ?_
  have HP := hide (show w.heap.size + 1 + 1 ≤ w1.heap.size from HS.out.lt)
  clear HS
  generalize w1.heap.size = p8 at *
  rintro W2 h2
  have hlt2 : decide (k 1 - 2 < (ln : Int)) = false := decide_eq_false (by omega)
  refine wp_region_grow 10 [(17, .val (.bool true)), (18, .val (.bool false)), (19, .val (.bool false)), (20, .val (.agg #[.int .u64 (dgl (s) 0 : Nat), .int .u64 (dgl (s) 1 : Nat), .int .u64 (dgl (s) 2 : Nat), .int .u64 (dgl (s) 3 : Nat), .int .u64 (dgl (s) 4 : Nat), .int .u64 (dgl (s) 5 : Nat), .int .u64 (dgl (s) 6 : Nat), .int .u64 (dgl (s) 7 : Nat)])), (21, .val (.int .i64 (ln : Nat))), (22, .val (.pointer (some ⟨p8, 1, none⟩))), (23, .val (.int .i64 (k 1))), (24, .val (.int .i64 (k 1 - 2))), (25, .val (.bool false)), (26, .val (.bool false))]
    (fun W => NwSt s w W ∧ ∀ i, i < 5 → W.cell? ⟨p8, i, none⟩ = some (.int .i64 (k i))) mixedOk (by kernel_rfl) (by kernel_rfl) (⟨h2.1.below (Below.refl _ _).drew, fun i hi => ((Below.refl _ _).drew.cell (p := ⟨p8, i, none⟩) (cell_lt (h2.2 i hi))).trans (h2.2 i hi)⟩) (fun W W' h hb => ⟨h.1.below hb, fun i hi => (hb.cell (p := ⟨p8, i, none⟩) (cell_lt (h.2 i hi))).trans (h.2 i hi)⟩) ?_ ?_
  · refine gSt (gStep_run rfl (gRun_move 9 17 (.inl rfl) rfl (by decide +kernel) (fun v w h => h))) ?_
    refine gSt (gStep_run rfl ?_) ?_
    · intro ρ W hC hc hf hL
      have e17 : ρ (.tmp 17) = .bool true := hL 17 (by decide +kernel)
      simp [go_sem, hc, hf, e17]
      exact ⟨Below.refl _ _, rfl⟩
    refine gSt (gStep_run rfl (gRun_move 18 19 (.inl rfl) rfl (by decide +kernel) (fun v w h => h))) ?_
    refine gSt (gStep_on 2 19 false rfl rfl (by decide +kernel) (fun v w h => h) ?_) ?_
    · intro ρ W hC hc hf hL
      have e5 : ρ (.tmp 5) = .pointer (some ⟨w.heap.size, 0, none⟩) := hL 5 (by decide +kernel)
      have hl := hC.1.la.1
      simp [go_sem, hc, hf, e5, hl]
      exact ⟨Below.refl _ _, rfl⟩
    refine gSt (gStep_on 2 19 false rfl rfl (by decide +kernel) (fun v w h => h) ?_) ?_
    · intro ρ W hC hc hf hL
      have e20 : ρ (.tmp 20) = .agg #[.int .u64 (dgl (s) 0 : Nat), .int .u64 (dgl (s) 1 : Nat), .int .u64 (dgl (s) 2 : Nat), .int .u64 (dgl (s) 3 : Nat), .int .u64 (dgl (s) 4 : Nat), .int .u64 (dgl (s) 5 : Nat), .int .u64 (dgl (s) 6 : Nat), .int .u64 (dgl (s) 7 : Nat)] := hL 20 (by decide +kernel)
      simp [go_sem, hc, hf, e20]
      refine (HLN.out W).mono ?_
      rintro e w' ⟨rfl, hb⟩
      exact ⟨_, rfl, by first | exact hb | (subst hb; exact Below.refl _ _), rfl⟩
    refine gSt (gStep_on 2 19 false rfl rfl (by decide +kernel) (fun v w h => h) ?_) ?_
    · intro ρ W hC hc hf hL
      have e8 : ρ (.tmp 8) = .pointer (some ⟨p8, 0, none⟩) := hL 8 (by decide +kernel)
      simp [go_sem, hc, hf, e8]
      exact ⟨Below.refl _ _, rfl⟩
    refine gSt (gStep_on 2 19 false rfl rfl (by decide +kernel) (fun v w h => h) ?_) ?_
    · intro ρ W hC hc hf hL
      have e22 : ρ (.tmp 22) = .pointer (some ⟨p8, 1, none⟩) := hL 22 (by decide +kernel)
      have hk1 := hC.2 1 (by decide)
      simp [go_sem, hc, hf, e22, hk1]
      exact ⟨Below.refl _ _, rfl⟩
    refine gSt (gStep_on 2 19 false rfl rfl (by decide +kernel) (fun v w h => h) ?_) ?_
    · intro ρ W hC hc hf hL
      have e23 : ρ (.tmp 23) = .int .i64 (k 1) := hL 23 (by decide +kernel)
      have hw2 : IntKind.i64.wrap (k 1 - 2) = k 1 - 2 := by rw [IntKind.wrap_i64]; omega
      simp [go_sem, hc, hf, e23, hw2]
      exact ⟨Below.refl _ _, rfl⟩
    refine gSt (gStep_on 2 19 false rfl rfl (by decide +kernel) (fun v w h => h) ?_) ?_
    · intro ρ W hC hc hf hL
      have e21 : ρ (.tmp 21) = .int .i64 (ln : Nat) := hL 21 (by decide +kernel)
      have e24 : ρ (.tmp 24) = .int .i64 (k 1 - 2) := hL 24 (by decide +kernel)
      simp [go_sem, hc, hf, e21, e24, hlt2, hlt]
      exact ⟨Below.refl _ _, rfl⟩
    refine gSt (gStep_run rfl (gRun_pickCF 19 25 26 _ rfl rfl (by decide +kernel) (by decide +kernel) (fun v w h => h) (fun v w h => h))) ?_
    exact gSt0
  · intro W hC
    refine gFi 17 rfl ?_
    rintro _ rfl
    refine gFi 18 rfl ?_
    rintro _ rfl
    refine gFi 19 rfl ?_
    rintro _ rfl
    refine gFi 20 rfl ?_
    rintro _ rfl
    refine gFi 21 rfl ?_
    rintro _ rfl
    refine gFi 22 rfl ?_
    rintro _ rfl
    refine gFi 23 rfl ?_
    rintro _ rfl
    refine gFi 24 rfl ?_
    rintro _ rfl
    refine gFi 25 rfl ?_
    rintro _ rfl
    refine gFi 26 rfl ?_
    rintro _ rfl
    refine gFi0 ?_
    simp only [List.drop_succ_cons, List.drop_zero, Act.put, List.setIfInBounds_toArray, List.set_cons_succ, List.set_cons_zero]
    have HS := hide hC.1
    clear hC h2
    go_upto_region 4 with fail
    refine wp_gen (fun W => NwSt s w W) HS.out ?_
    clear HS
    rintro W3 h3
    refine wp_region_storeK 10 [8] [29, 30, 31, 32, 28, 33, 34, 10, 11] (fun bs => [(29, .val (.agg #[.int .u64 (dgl (s) 0 : Nat), .int .u64 (dgl (s) 1 : Nat), .int .u64 (dgl (s) 2 : Nat), .int .u64 (dgl (s) 3 : Nat), .int .u64 (dgl (s) 4 : Nat), .int .u64 (dgl (s) 5 : Nat), .int .u64 (dgl (s) 6 : Nat), .int .u64 (dgl (s) 7 : Nat)])), (30, .val (.int .i64 f)), (31, .val (.agg #[.int .u64 (dgl (q) 0 : Nat), .int .u64 (dgl (q) 1 : Nat), .int .u64 (dgl (q) 2 : Nat), .int .u64 (dgl (q) 3 : Nat), .int .u64 (dgl (q) 4 : Nat), .int .u64 (dgl (q) 5 : Nat), .int .u64 (dgl (q) 6 : Nat), .int .u64 (dgl (q) 7 : Nat)])), (32, .val (.tuple #[.agg #[.int .u64 (dgl (t) 0 : Nat), .int .u64 (dgl (t) 1 : Nat), .int .u64 (dgl (t) 2 : Nat), .int .u64 (dgl (t) 3 : Nat), .int .u64 (dgl (t) 4 : Nat), .int .u64 (dgl (t) 5 : Nat), .int .u64 (dgl (t) 6 : Nat), .int .u64 (dgl (t) 7 : Nat)], .bool ov])), (28, .val (.tuple #[.agg #[.int .u64 (dgl (t) 0 : Nat), .int .u64 (dgl (t) 1 : Nat), .int .u64 (dgl (t) 2 : Nat), .int .u64 (dgl (t) 3 : Nat), .int .u64 (dgl (t) 4 : Nat), .int .u64 (dgl (t) 5 : Nat), .int .u64 (dgl (t) 6 : Nat), .int .u64 (dgl (t) 7 : Nat)], .bool ov])), (33, .val (.agg #[.int .u64 (dgl (t) 0 : Nat), .int .u64 (dgl (t) 1 : Nat), .int .u64 (dgl (t) 2 : Nat), .int .u64 (dgl (t) 3 : Nat), .int .u64 (dgl (t) 4 : Nat), .int .u64 (dgl (t) 5 : Nat), .int .u64 (dgl (t) 6 : Nat), .int .u64 (dgl (t) 7 : Nat)])), (34, .val (.bool ov)), (10, bif bs.headD false then SlotIs.box (w.heap.size + 1 + 1) (dgl t) else SlotIs.box (w.heap.size + 1 + 1) (fun _ => 0)), (11, .val (.bool ov))])
      (fun _ W => NwSt s w W) (fun bs => rfl) mixedOk (by kernel_rfl) (by kernel_rfl) (by kernel_rfl) (h3.below (Below.refl _ _).drew) (fun bs W W' h hb => h.below hb) ?_ ?_
    · refine kSt rfl (fun φ hφ => gStep_run rfl ?_) ?_
      · intro ρ W hC hc hf hL
        have e5 : ρ (.tmp 5) = .pointer (some ⟨w.heap.size, 0, none⟩) := hL 5 (by decide +kernel)
        have hl := hC.la.1
        simp [go_sem, hc, hf, e5, hl]
        exact ⟨Below.refl _ _, rfl⟩
      refine kSt rfl (fun φ hφ => gStep_run rfl (gRun_move 0 30 (.inl rfl) rfl (by decide +kernel) (fun v w h => h))) ?_
      refine kSt rfl (fun φ hφ => gStep_run rfl ?_) ?_
      · intro ρ W hC hc hf hL
        have e30 : ρ (.tmp 30) = .int .i64 f := hL 30 (by decide +kernel)
        simp [go_sem, hc, hf, e30]
        refine (HQB.out W hC.g).mono ?_
        rintro e w' ⟨rfl, hb⟩
        exact ⟨_, rfl, by first | exact hb | (subst hb; exact Below.refl _ _), rfl⟩
      refine kSt rfl (fun φ hφ => gStep_run rfl ?_) ?_
      · intro ρ W hC hc hf hL
        have e29 : ρ (.tmp 29) = .agg #[.int .u64 (dgl (s) 0 : Nat), .int .u64 (dgl (s) 1 : Nat), .int .u64 (dgl (s) 2 : Nat), .int .u64 (dgl (s) 3 : Nat), .int .u64 (dgl (s) 4 : Nat), .int .u64 (dgl (s) 5 : Nat), .int .u64 (dgl (s) 6 : Nat), .int .u64 (dgl (s) 7 : Nat)] := hL 29 (by decide +kernel)
        have e31 : ρ (.tmp 31) = .agg #[.int .u64 (dgl (q) 0 : Nat), .int .u64 (dgl (q) 1 : Nat), .int .u64 (dgl (q) 2 : Nat), .int .u64 (dgl (q) 3 : Nat), .int .u64 (dgl (q) 4 : Nat), .int .u64 (dgl (q) 5 : Nat), .int .u64 (dgl (q) 6 : Nat), .int .u64 (dgl (q) 7 : Nat)] := hL 31 (by decide +kernel)
        simp [go_sem, hc, hf, e29, e31]
        refine (HAD.out W).mono ?_
        rintro e w' ⟨rfl, hb⟩
        exact ⟨_, rfl, by first | exact hb | (subst hb; exact Below.refl _ _), rfl⟩
      refine kSt rfl (fun φ hφ => gStep_run rfl (gRun_move 32 28 (.inl rfl) rfl (by decide +kernel) (fun v w h => h))) ?_
      refine kSt rfl (fun φ hφ => gStep_run rfl ?_) ?_
      · intro ρ W hC hc hf hL
        have e28 : ρ (.tmp 28) = .tuple #[.agg #[.int .u64 (dgl (t) 0 : Nat), .int .u64 (dgl (t) 1 : Nat), .int .u64 (dgl (t) 2 : Nat), .int .u64 (dgl (t) 3 : Nat), .int .u64 (dgl (t) 4 : Nat), .int .u64 (dgl (t) 5 : Nat), .int .u64 (dgl (t) 6 : Nat), .int .u64 (dgl (t) 7 : Nat)], .bool ov] := hL 28 (by decide +kernel)
        simp [go_sem, hc, hf, e28]
        exact ⟨Below.refl _ _, rfl⟩
      refine kSt rfl (fun φ hφ => gStep_run rfl ?_) ?_
      · intro ρ W hC hc hf hL
        have e28 : ρ (.tmp 28) = .tuple #[.agg #[.int .u64 (dgl (t) 0 : Nat), .int .u64 (dgl (t) 1 : Nat), .int .u64 (dgl (t) 2 : Nat), .int .u64 (dgl (t) 3 : Nat), .int .u64 (dgl (t) 4 : Nat), .int .u64 (dgl (t) 5 : Nat), .int .u64 (dgl (t) 6 : Nat), .int .u64 (dgl (t) 7 : Nat)], .bool ov] := hL 28 (by decide +kernel)
        simp [go_sem, hc, hf, e28]
        exact ⟨Below.refl _ _, rfl⟩
      refine kSt rfl (fun φ hφ => gStep_run rfl ?_) ?_
      · intro ρ W hC hc hf hL
        have hφ0 : φ 8 = false := hφ 8 (by simp) (by kernel_rfl)
        simp [go_sem, hc, hf]
        refine ⟨below_allocs _ _, ?_⟩
        show (bif φ 8 then SlotIs.box (w.heap.size + 1 + 1) (dgl t) else SlotIs.box (w.heap.size + 1 + 1) (fun _ => 0)).R _ _
        rw [hφ0]
        exact ⟨_, rfl, hC.lt, liesF_new _ (fun _ => 0) _, fun i => by simp [go_sem]⟩
      refine kStS rfl ⟨rfl, rfl, ?_⟩ ?_
      · intro φ ρ W hφ hC hc hL
        have b10 := hL 10 (by decide +kernel)
        have e33 : ρ (.tmp 33) = .agg #[.int .u64 (dgl (t) 0 : Nat), .int .u64 (dgl (t) 1 : Nat), .int .u64 (dgl (t) 2 : Nat), .int .u64 (dgl (t) 3 : Nat), .int .u64 (dgl (t) 4 : Nat), .int .u64 (dgl (t) 5 : Nat), .int .u64 (dgl (t) 6 : Nat), .int .u64 (dgl (t) 7 : Nat)] := hL 33 (by decide +kernel)
        have b10 : (bif φ 8 then SlotIs.box (w.heap.size + 1 + 1) (dgl t) else SlotIs.box (w.heap.size + 1 + 1) (fun _ => 0)).R (ρ (.tmp 10)) W := hL 10 (by decide +kernel)
        rw [hφ] at b10
        obtain ⟨p10, e10, q10, l10, z10⟩ := b10
        have hz := l10.1
        have hzl := l10.2
        refine gUpon_of ((((((((W.setCell ⟨p10, 0, none⟩ (.int .u64 (dgl t 0 : Nat))).setCell ⟨p10, 1, none⟩ (.int .u64 (dgl t 1 : Nat))).setCell ⟨p10, 2, none⟩ (.int .u64 (dgl t 2 : Nat))).setCell ⟨p10, 3, none⟩ (.int .u64 (dgl t 3 : Nat))).setCell ⟨p10, 4, none⟩ (.int .u64 (dgl t 4 : Nat))).setCell ⟨p10, 5, none⟩ (.int .u64 (dgl t 5 : Nat))).setCell ⟨p10, 6, none⟩ (.int .u64 (dgl t 6 : Nat))).setCell ⟨p10, 7, none⟩ (.int .u64 (dgl t 7 : Nat))) ?_ (fun _ => ?_)
        · simp [go_sem, hc, e33, e10, hz, hzl, z10, gUpon]
        have hs8 := below_set8 (Below.refl (w.heap.size + 1 + 1) W) p10 q10 (.int .u64 (dgl t 0 : Nat)) (.int .u64 (dgl t 1 : Nat)) (.int .u64 (dgl t 2 : Nat)) (.int .u64 (dgl t 3 : Nat)) (.int .u64 (dgl t 4 : Nat)) (.int .u64 (dgl t 5 : Nat)) (.int .u64 (dgl t 6 : Nat)) (.int .u64 (dgl t 7 : Nat))
        refine ⟨hC.under hs8 (by omega), fun u => ?_⟩
        refine (tbl_imp rfl (fun _ => val_imp) (tbl_imp rfl (fun _ => val_imp) (tbl_imp rfl (fun _ => val_imp) (tbl_imp rfl (fun _ => val_imp) (tbl_imp rfl (fun _ => val_imp) (tbl_imp rfl (fun _ => val_imp) (tbl_imp rfl (fun _ => val_imp) (tbl_imp rfl (fun ht h => ?_) (tbl_imp rfl (fun _ => val_imp) tbl_nil_imp)))))))))
        subst ht
        show (bif (φ 8 || true) then SlotIs.box (w.heap.size + 1 + 1) (dgl t) else SlotIs.box (w.heap.size + 1 + 1) (fun _ => 0)).R _ _
        rw [Bool.or_true]
        exact ⟨p10, e10, q10, set8_same W p10 (dgl t) (fun _ => 0) l10, fun i => by simpa [go_sem] using z10 i⟩
      refine kSt rfl (fun φ hφ => gStep_run rfl (gRun_move 34 11 (.inr rfl) rfl (by decide +kernel) (fun v w h => h))) ?_
      exact kSt0
    · intro W hC
      refine gFi 29 rfl ?_
      rintro _ rfl
      refine gFi 30 rfl ?_
      rintro _ rfl
      refine gFi 31 rfl ?_
      rintro _ rfl
      refine gFi 32 rfl ?_
      rintro _ rfl
      refine gFi 28 rfl ?_
      rintro _ rfl
      refine gFi 33 rfl ?_
      rintro _ rfl
      refine gFi 34 rfl ?_
      rintro _ rfl
      refine gFi 10 rfl ?_
      rintro _ ⟨p10, rfl, q10, l10, z10⟩
      refine gFiN rfl ?_
      refine gFi 11 rfl ?_
      rintro _ rfl
      refine gFi0 ?_
      simp only [List.drop_succ_cons, List.drop_zero, Act.put, List.setIfInBounds_toArray, List.set_cons_succ, List.set_cons_zero]
      have HS := hide hC
      have HL := hide l10
      clear hC l10 q10 z10 h3
      go_upto_region 5 with fail
      refine wp_gen (fun W => NwSt s w W ∧ LiesF W p10 (dgl t)) ⟨HS.out, HL.out⟩ ?_
      clear HS HL
      rintro W5 ⟨h5, h6⟩
      refine wp_region_grow 10 [(35, .val (.int .i64 f)), (36, .val (.bool neg)), (37, .val (.int .i64 f)), (38, .val (.int .i64 f)), (39, .val (.agg #[.int .u64 (dgl (a) 1 : Nat), .int .u64 (dgl (a) 0 : Nat)])), (40, .val (.int .i64 z)), (41, .val (.agg #[.int .u64 (dgl (t) 0 : Nat), .int .u64 (dgl (t) 1 : Nat), .int .u64 (dgl (t) 2 : Nat), .int .u64 (dgl (t) 3 : Nat), .int .u64 (dgl (t) 4 : Nat), .int .u64 (dgl (t) 5 : Nat), .int .u64 (dgl (t) 6 : Nat), .int .u64 (dgl (t) 7 : Nat)])), (42, .val (.tuple #[.agg #[.int .u64 (dgl (b) 1 : Nat), .int .u64 (dgl (b) 0 : Nat)], .bool true])), (43, .val (.agg #[.int .u64 (dgl (b) 1 : Nat), .int .u64 (dgl (b) 0 : Nat)])), (44, .val (.bool true))]
        (fun W => NwSt s w W ∧ LiesF W p10 (dgl t)) mixedOk (by kernel_rfl) (by kernel_rfl) (⟨h5.below (Below.refl _ _).drew, h6.below (Below.refl _ _).drew⟩) (fun W W' h hb => ⟨h.1.below hb, h.2.below hb⟩) ?_ ?_
      · refine gSt (gStep_run rfl (gRun_move 0 35 (.inl rfl) rfl (by decide +kernel) (fun v w h => h))) ?_
        refine gSt (gStep_run rfl (gRun_move 1 36 (.inl rfl) rfl (by decide +kernel) (fun v w h => h))) ?_
        refine gSt (gStep_run rfl (gRun_move 0 37 (.inl rfl) rfl (by decide +kernel) (fun v w h => h))) ?_
        refine gSt (gStep_run rfl (gRun_move 0 38 (.inl rfl) rfl (by decide +kernel) (fun v w h => h))) ?_
        refine gSt (gStep_run rfl ?_) ?_
        · intro ρ W hC hc hf hL
          have e38 : ρ (.tmp 38) = .int .i64 f := hL 38 (by decide +kernel)
          simp [go_sem, hc, hf, e38]
          refine (HNA.out W hC.1.g).mono ?_
          rintro e w' ⟨rfl, hb⟩
          exact ⟨_, rfl, by first | exact hb | (subst hb; exact Below.refl _ _), rfl⟩
        refine gSt (gStep_run rfl ?_) ?_
        · intro ρ W hC hc hf hL
          have e37 : ρ (.tmp 37) = .int .i64 f := hL 37 (by decide +kernel)
          have e39 : ρ (.tmp 39) = .agg #[.int .u64 (dgl (a) 1 : Nat), .int .u64 (dgl (a) 0 : Nat)] := hL 39 (by decide +kernel)
          simp [go_sem, hc, hf, e37, e39]
          refine (HFD.out W hC.1.g).mono ?_
          rintro e w' ⟨rfl, hb⟩
          exact ⟨_, rfl, by first | exact hb | (subst hb; exact Below.refl _ _), rfl⟩
        refine gSt (gStep_run rfl ?_) ?_
        · intro ρ W hC hc hf hL
          have e10 : ρ (.tmp 10) = .pointer (some ⟨p10, 0, none⟩) := hL 10 (by decide +kernel)
          have hl := hC.2.1
          simp [go_sem, hc, hf, e10, hl]
          exact ⟨Below.refl _ _, rfl⟩
        refine gSt (gStep_run rfl ?_) ?_
        · intro ρ W hC hc hf hL
          have e35 : ρ (.tmp 35) = .int .i64 f := hL 35 (by decide +kernel)
          have e36 : ρ (.tmp 36) = .bool neg := hL 36 (by decide +kernel)
          have e40 : ρ (.tmp 40) = .int .i64 z := hL 40 (by decide +kernel)
          have e41 : ρ (.tmp 41) = .agg #[.int .u64 (dgl (t) 0 : Nat), .int .u64 (dgl (t) 1 : Nat), .int .u64 (dgl (t) 2 : Nat), .int .u64 (dgl (t) 3 : Nat), .int .u64 (dgl (t) 4 : Nat), .int .u64 (dgl (t) 5 : Nat), .int .u64 (dgl (t) 6 : Nat), .int .u64 (dgl (t) 7 : Nat)] := hL 41 (by decide +kernel)
          simp [go_sem, hc, hf, e35, e36, e40, e41]
          refine (HMK.out W hC.1.g).mono ?_
          rintro e w' ⟨rfl, hb⟩
          exact ⟨_, rfl, by first | exact hb | (subst hb; exact Below.refl _ _), rfl⟩
        refine gSt (gStep_run rfl ?_) ?_
        · intro ρ W hC hc hf hL
          have e42 : ρ (.tmp 42) = .tuple #[.agg #[.int .u64 (dgl (b) 1 : Nat), .int .u64 (dgl (b) 0 : Nat)], .bool true] := hL 42 (by decide +kernel)
          simp [go_sem, hc, hf, e42]
          exact ⟨Below.refl _ _, rfl⟩
        refine gSt (gStep_run rfl ?_) ?_
        · intro ρ W hC hc hf hL
          have e42 : ρ (.tmp 42) = .tuple #[.agg #[.int .u64 (dgl (b) 1 : Nat), .int .u64 (dgl (b) 0 : Nat)], .bool true] := hL 42 (by decide +kernel)
          simp [go_sem, hc, hf, e42]
          exact ⟨Below.refl _ _, rfl⟩
        exact gSt0
      · intro W hC
        refine gFi 35 rfl ?_
        rintro _ rfl
        refine gFi 36 rfl ?_
        rintro _ rfl
        refine gFi 37 rfl ?_
        rintro _ rfl
        refine gFi 38 rfl ?_
        rintro _ rfl
        refine gFi 39 rfl ?_
        rintro _ rfl
        refine gFi 40 rfl ?_
        rintro _ rfl
        refine gFi 41 rfl ?_
        rintro _ rfl
        refine gFi 42 rfl ?_
        rintro _ rfl
        refine gFi 43 rfl ?_
        rintro _ rfl
        refine gFi 44 rfl ?_
        rintro _ rfl
        refine gFi0 ?_
        simp only [List.drop_succ_cons, List.drop_zero, Act.put, List.setIfInBounds_toArray, List.set_cons_succ, List.set_cons_zero]
        have HS := hide hC.1
        clear hC h5 h6
        have rh := HS.out.r.h
        have rl := HS.out.r.l
        have hrf := HS.out.fr
        have hlt9 := HS.out.lt
        have HB := hide HS.out.bel
        clear HS
        go_wp2
        exact bodyPost_ret (v := .tuple #[.agg #[.int .u64 (dgl (b) 1 : Nat), .int .u64 (dgl (b) 0 : Nat)], .bool true]) (by simp [results, Tryd.results45, go_sem, hlt9, rh, rl]) rfl ⟨rfl, (HB.out.setCell (p := ⟨w.heap.size + 1, 0, none⟩) (Nat.le_succ _) _).setCell (p := ⟨w.heap.size + 1, 1, none⟩) (Nat.le_succ _) _⟩
        
      
    
structure NqSt (a : Nat) (w W : World) : Prop where
  g : FmtG W
  gl : 1 < w.heap.size
  wa : WB W (w.heap.size) (dgl a 1) (dgl a 0)
  r : WB W (w.heap.size + 1) (0) (0)
  fr : ∀ i, W.frozen? ⟨w.heap.size + 1, i, none⟩ = false
  lt : w.heap.size + 1 < W.heap.size
  bel : Below w.heap.size w W
theorem NqSt.under {a : Nat} {w W W' : World} (h : NqSt a w W) {C : Nat} (hb : Below C W W') (hc : w.heap.size + 1 < C) : NqSt a w W' :=
  ⟨⟨fun i hi => (hb.cell (p := ⟨1, i, none⟩) (show 1 < C by have := h.gl; omega)).trans (h.g.c i hi), Nat.lt_of_lt_of_le h.g.lt hb.size⟩, h.gl, h.wa.under hb (show w.heap.size < C by omega), h.r.under hb (show w.heap.size + 1 < C by omega), fun i => (hb.frozen (p := ⟨w.heap.size + 1, i, none⟩) (show w.heap.size + 1 < C by omega)).trans (h.fr i), Nat.lt_of_lt_of_le h.lt hb.size, h.bel.trans (hb.mono (by omega))⟩
theorem NqSt.below {a : Nat} {w W W' : World} (h : NqSt a w W) (hb : Below W.heap.size W W') : NqSt a w W' := h.under hb h.lt
theorem nqSt_start (a : Nat) (w : World) (hg : FmtG w) : NqSt a w ((w.alloc (.cells #[.int .u64 (dgl (a) 1 : Nat), .int .u64 (dgl (a) 0 : Nat)] 28)).alloc (.cells #[.int .u64 0, .int .u64 0] 28)) :=
  ⟨(hg.below (below_allocs _ _)).below (below_allocs _ _), hg.lt, ⟨by simp [go_sem], by simp [go_sem], by simp; omega⟩, ⟨by simp [go_sem], by simp [go_sem], by simp⟩, fun i => by simp [go_sem], by simp, below_trans (below_allocs _ _) (below_allocs _ _)⟩

set_option maxHeartbeats 4000000 in
theorem quiet_N (f : Int) (ng ok : Bool) (a b s : Nat)
    (HPL : Hid (∀ w, FmtG w → Calls Tryd.prog 44 #[.int .i64 f, .agg #[.int .u64 (dgl (a) 1 : Nat), .int .u64 (dgl (a) 0 : Nat)]] w fun e w' => e = .returned (.tuple #[.agg #[.int .u64 (dgl (s) 0 : Nat), .int .u64 (dgl (s) 1 : Nat), .int .u64 (dgl (s) 2 : Nat), .int .u64 (dgl (s) 3 : Nat), .int .u64 (dgl (s) 4 : Nat), .int .u64 (dgl (s) 5 : Nat), .int .u64 (dgl (s) 6 : Nat), .int .u64 (dgl (s) 7 : Nat)], .bool false]) ∧ Below w.heap.size w w')) (w : World) (hg : FmtG w) :
    Calls Tryd.prog 42 #[.int .i64 f, .agg #[.int .u64 (dgl (a) 1 : Nat), .int .u64 (dgl (a) 0 : Nat)]] w fun e w' => e = .returned (.agg #[.int .u64 (dgl (a) 1 : Nat), .int .u64 (dgl (a) 0 : Nat)]) ∧ Below w.heap.size w w' := by
  have HS := hide (nqSt_start a w hg)
  clear hg
  go_enter Tryd.func42, Tryd.ntmps42
  go_upto_region 1 with fail
  refine wp_gen (fun W => NqSt a w W) HS.out ?_
  clear HS
  rintro W1 h1
  have HS := hide h1
  clear h1
  have lh := HS.out.wa.h
  have ll := HS.out.wa.l
  go_wp2_with fail
  refine (HPL.out _ HS.out.g).mono ?_
  rintro e w1 ⟨rfl, hb1⟩
  replace HS := hide (HS.out.below hb1)
  clear hb1
  clear lh ll
  go_upto_region 2 with fail
  refine wp_gen (fun W => NqSt a w W ∧ LiesF W w1.heap.size (dgl s)) ⟨HS.out.below (below_allocs _ _), liesF_new _ _ _⟩ ?_
  have HP := hide (show w.heap.size + 1 + 1 ≤ w1.heap.size from HS.out.lt)
  clear HS
  generalize w1.heap.size = p5 at *
  rintro W2 ⟨g1, g2⟩
  have HS := hide g1
  have HL := hide g2
  clear g1 g2
  have lh := HS.out.wa.h
  have ll := HS.out.wa.l
  clear HL
  have rh := HS.out.r.h
  have rl := HS.out.r.l
  have hrf := HS.out.fr
  have hlt9 := HS.out.lt
  have HB := hide HS.out.bel
  clear HS
  go_wp2
  exact bodyPost_ret (v := .agg #[.int .u64 (dgl (a) 1 : Nat), .int .u64 (dgl (a) 0 : Nat)]) (by simp [results, Tryd.results42, go_sem, hlt9, rh, rl]) rfl ⟨rfl, (HB.out.setCell (p := ⟨w.heap.size + 1, 0, none⟩) (Nat.le_succ _) _).setCell (p := ⟨w.heap.size + 1, 1, none⟩) (Nat.le_succ _) _⟩

set_option maxHeartbeats 4000000 in
theorem quiet_Y (f : Int) (ng ok : Bool) (a b s : Nat)
    (HPL : Hid (∀ w, FmtG w → Calls Tryd.prog 44 #[.int .i64 f, .agg #[.int .u64 (dgl (a) 1 : Nat), .int .u64 (dgl (a) 0 : Nat)]] w fun e w' => e = .returned (.tuple #[.agg #[.int .u64 (dgl (s) 0 : Nat), .int .u64 (dgl (s) 1 : Nat), .int .u64 (dgl (s) 2 : Nat), .int .u64 (dgl (s) 3 : Nat), .int .u64 (dgl (s) 4 : Nat), .int .u64 (dgl (s) 5 : Nat), .int .u64 (dgl (s) 6 : Nat), .int .u64 (dgl (s) 7 : Nat)], .bool true]) ∧ Below w.heap.size w w'))
    (HNG : Hid (∀ w, FmtG w → Calls Tryd.prog 97 #[.int .i64 f, .agg #[.int .u64 (dgl (a) 1 : Nat), .int .u64 (dgl (a) 0 : Nat)]] w fun e w' => e = .returned (.bool ng) ∧ Below w.heap.size w w'))
    (HWI : Hid (∀ w, FmtG w → Calls Tryd.prog 45 #[.int .i64 f, .bool ng, .agg #[.int .u64 (dgl (s) 0 : Nat), .int .u64 (dgl (s) 1 : Nat), .int .u64 (dgl (s) 2 : Nat), .int .u64 (dgl (s) 3 : Nat), .int .u64 (dgl (s) 4 : Nat), .int .u64 (dgl (s) 5 : Nat), .int .u64 (dgl (s) 6 : Nat), .int .u64 (dgl (s) 7 : Nat)]] w fun e w' => e = .returned (.tuple #[.agg #[.int .u64 (dgl (b) 1 : Nat), .int .u64 (dgl (b) 0 : Nat)], .bool ok]) ∧ Below w.heap.size w w')) (w : World) (hg : FmtG w) :
    Calls Tryd.prog 42 #[.int .i64 f, .agg #[.int .u64 (dgl (a) 1 : Nat), .int .u64 (dgl (a) 0 : Nat)]] w fun e w' => e = .returned (.agg #[.int .u64 (dgl (b) 1 : Nat), .int .u64 (dgl (b) 0 : Nat)]) ∧ Below w.heap.size w w' := by
  have HS := hide (nqSt_start a w hg)
  clear hg
  go_enter Tryd.func42, Tryd.ntmps42
  go_upto_region 1 with fail
  refine wp_gen (fun W => NqSt a w W) HS.out ?_
  clear HS
  rintro W1 h1
  have HS := hide h1
  clear h1
  have lh := HS.out.wa.h
  have ll := HS.out.wa.l
  go_wp2_with fail
  refine (HPL.out _ HS.out.g).mono ?_
  rintro e w1 ⟨rfl, hb1⟩
  replace HS := hide (HS.out.below hb1)
  clear hb1
  clear lh ll
  go_upto_region 2 with fail
  refine wp_gen (fun W => NqSt a w W ∧ LiesF W w1.heap.size (dgl s)) ⟨HS.out.below (below_allocs _ _), liesF_new _ _ _⟩ ?_
  have HP := hide (show w.heap.size + 1 + 1 ≤ w1.heap.size from HS.out.lt)
  clear HS
  generalize w1.heap.size = p5 at *
  rintro W2 ⟨g1, g2⟩
  have HS := hide g1
  have HL := hide g2
  clear g1 g2
  go_upto_region 4 with fail
  refine wp_gen (fun W => NqSt a w W ∧ LiesF W p5 (dgl s)) ⟨HS.out, HL.out⟩ ?_
  clear HS HL
  rintro W3 ⟨h3, h4⟩
  refine wp_region_storeK 12 [10] [19, 20, 21, 22, 23, 24, 18, 25, 26, 7, 8] (fun bs => [(19, .val (.int .i64 f)), (20, .val (.int .i64 f)), (21, .val (.agg #[.int .u64 (dgl (a) 1 : Nat), .int .u64 (dgl (a) 0 : Nat)])), (22, .val (.bool ng)), (23, .val (.agg #[.int .u64 (dgl (s) 0 : Nat), .int .u64 (dgl (s) 1 : Nat), .int .u64 (dgl (s) 2 : Nat), .int .u64 (dgl (s) 3 : Nat), .int .u64 (dgl (s) 4 : Nat), .int .u64 (dgl (s) 5 : Nat), .int .u64 (dgl (s) 6 : Nat), .int .u64 (dgl (s) 7 : Nat)])), (24, .val (.tuple #[.agg #[.int .u64 (dgl (b) 1 : Nat), .int .u64 (dgl (b) 0 : Nat)], .bool ok])), (18, .val (.tuple #[.agg #[.int .u64 (dgl (b) 1 : Nat), .int .u64 (dgl (b) 0 : Nat)], .bool ok])), (25, .val (.agg #[.int .u64 (dgl (b) 1 : Nat), .int .u64 (dgl (b) 0 : Nat)])), (26, .val (.bool ok)), (7, bif bs.headD false then SlotIs.wbox (w.heap.size + 1 + 1) (dgl b 1) (dgl b 0) else SlotIs.wbox (w.heap.size + 1 + 1) 0 0), (8, .val (.bool ok))])
    (fun bs W => NqSt a w W ∧ (bs.headD false = false → LiesF W p5 (dgl s))) (fun bs => rfl) mixedOk (by kernel_rfl) (by kernel_rfl) (by kernel_rfl) (⟨h3.below (Below.refl _ _).drew, fun _ => h4.below (Below.refl _ _).drew⟩) (fun bs W W' h hb => ⟨h.1.below hb, fun hq => (h.2 hq).below hb⟩) ?_ ?_
  · refine kSt rfl (fun φ hφ => gStep_run rfl (gRun_move 0 19 (.inl rfl) rfl (by decide +kernel) (fun v w h => h))) ?_
    refine kSt rfl (fun φ hφ => gStep_run rfl (gRun_move 0 20 (.inl rfl) rfl (by decide +kernel) (fun v w h => h))) ?_
    refine kSt rfl (fun φ hφ => gStep_run rfl ?_) ?_
    · intro ρ W hC hc hf hL
      have e3 : ρ (.tmp 3) = .pointer (some ⟨w.heap.size, 0, none⟩) := hL 3 (by decide +kernel)
      have lh := hC.1.wa.h
      have ll := hC.1.wa.l
      simp [go_sem, hc, hf, e3, lh, ll]
      exact ⟨Below.refl _ _, rfl⟩
    refine kSt rfl (fun φ hφ => gStep_run rfl ?_) ?_
    · intro ρ W hC hc hf hL
      have e20 : ρ (.tmp 20) = .int .i64 f := hL 20 (by decide +kernel)
      have e21 : ρ (.tmp 21) = .agg #[.int .u64 (dgl (a) 1 : Nat), .int .u64 (dgl (a) 0 : Nat)] := hL 21 (by decide +kernel)
      simp [go_sem, hc, hf, e20, e21]
      refine (HNG.out W hC.1.g).mono ?_
      rintro e w' ⟨rfl, hb⟩
      exact ⟨_, rfl, by first | exact hb | (subst hb; exact Below.refl _ _), rfl⟩
    refine kSt rfl (fun φ hφ => gStep_run rfl ?_) ?_
    · intro ρ W hC hc hf hL
      have e5 : ρ (.tmp 5) = .pointer (some ⟨p5, 0, none⟩) := hL 5 (by decide +kernel)
      have hφ0 : φ 10 = false := hφ 10 (by simp) (by kernel_rfl)
      have hl := (hC.2 hφ0).1
      simp [go_sem, hc, hf, e5, hl]
      exact ⟨Below.refl _ _, rfl⟩
    refine kSt rfl (fun φ hφ => gStep_run rfl ?_) ?_
    · intro ρ W hC hc hf hL
      have e19 : ρ (.tmp 19) = .int .i64 f := hL 19 (by decide +kernel)
      have e22 : ρ (.tmp 22) = .bool ng := hL 22 (by decide +kernel)
      have e23 : ρ (.tmp 23) = .agg #[.int .u64 (dgl (s) 0 : Nat), .int .u64 (dgl (s) 1 : Nat), .int .u64 (dgl (s) 2 : Nat), .int .u64 (dgl (s) 3 : Nat), .int .u64 (dgl (s) 4 : Nat), .int .u64 (dgl (s) 5 : Nat), .int .u64 (dgl (s) 6 : Nat), .int .u64 (dgl (s) 7 : Nat)] := hL 23 (by decide +kernel)
      simp [go_sem, hc, hf, e19, e22, e23]
      refine (HWI.out W hC.1.g).mono ?_
      rintro e w' ⟨rfl, hb⟩
      exact ⟨_, rfl, by first | exact hb | (subst hb; exact Below.refl _ _), rfl⟩
    refine kSt rfl (fun φ hφ => gStep_run rfl (gRun_move 24 18 (.inl rfl) rfl (by decide +kernel) (fun v w h => h))) ?_
    refine kSt rfl (fun φ hφ => gStep_run rfl ?_) ?_
    · intro ρ W hC hc hf hL
      have e18 : ρ (.tmp 18) = .tuple #[.agg #[.int .u64 (dgl (b) 1 : Nat), .int .u64 (dgl (b) 0 : Nat)], .bool ok] := hL 18 (by decide +kernel)
      simp [go_sem, hc, hf, e18]
      exact ⟨Below.refl _ _, rfl⟩
    refine kSt rfl (fun φ hφ => gStep_run rfl ?_) ?_
    · intro ρ W hC hc hf hL
      have e18 : ρ (.tmp 18) = .tuple #[.agg #[.int .u64 (dgl (b) 1 : Nat), .int .u64 (dgl (b) 0 : Nat)], .bool ok] := hL 18 (by decide +kernel)
      simp [go_sem, hc, hf, e18]
      exact ⟨Below.refl _ _, rfl⟩
    refine kSt rfl (fun φ hφ => gStep_run rfl ?_) ?_
    · intro ρ W hC hc hf hL
      have hφ0 : φ 10 = false := hφ 10 (by simp) (by kernel_rfl)
      simp [go_sem, hc, hf]
      refine ⟨below_allocs _ _, ?_⟩
      show (bif φ 10 then SlotIs.wbox (w.heap.size + 1 + 1) (dgl b 1) (dgl b 0) else SlotIs.wbox (w.heap.size + 1 + 1) 0 0).R _ _
      rw [hφ0]
      exact ⟨_, rfl, hC.1.lt, wb_new _ _, fun i => by simp [go_sem]⟩
    refine kStS rfl ⟨rfl, rfl, ?_⟩ ?_
    · intro φ ρ W hφ hC hc hL
      have b7 := hL 7 (by decide +kernel)
      have e25 : ρ (.tmp 25) = .agg #[.int .u64 (dgl (b) 1 : Nat), .int .u64 (dgl (b) 0 : Nat)] := hL 25 (by decide +kernel)
      have b7 : (bif φ 10 then SlotIs.wbox (w.heap.size + 1 + 1) (dgl b 1) (dgl b 0) else SlotIs.wbox (w.heap.size + 1 + 1) 0 0).R (ρ (.tmp 7)) W := hL 7 (by decide +kernel)
      rw [hφ] at b7
      obtain ⟨p7, e7, q7, l7, z7⟩ := b7
      have hzh := l7.h
      have hzl := l7.l
      have hzt := l7.lt
      refine gUpon_of ((W.setCell ⟨p7, 0, none⟩ (.int .u64 (dgl b 1 : Nat))).setCell ⟨p7, 1, none⟩ (.int .u64 (dgl b 0 : Nat))) ?_ (fun _ => ?_)
      · simp [go_sem, hc, e25, e7, hzh, hzl, hzt, z7, gUpon]
      have hs2 := ((Below.refl (w.heap.size + 1 + 1) W).setCell (p := ⟨p7, 0, none⟩) q7 (.int .u64 (dgl b 1 : Nat))).setCell (p := ⟨p7, 1, none⟩) q7 (.int .u64 (dgl b 0 : Nat))
      refine ⟨⟨hC.1.under hs2 (by omega), fun hb => ?_⟩, fun u => ?_⟩
      · have hb2 : (φ 10 || true) = false := hb
        rw [Bool.or_true] at hb2
        cases hb2
      refine (tbl_imp rfl (fun _ => val_imp) (tbl_imp rfl (fun _ => val_imp) (tbl_imp rfl (fun _ => val_imp) (tbl_imp rfl (fun _ => val_imp) (tbl_imp rfl (fun _ => val_imp) (tbl_imp rfl (fun _ => val_imp) (tbl_imp rfl (fun _ => val_imp) (tbl_imp rfl (fun _ => val_imp) (tbl_imp rfl (fun _ => val_imp) (tbl_imp rfl (fun ht h => ?_) (tbl_imp rfl (fun _ => val_imp) tbl_nil_imp)))))))))))
      subst ht
      show (bif (φ 10 || true) then SlotIs.wbox (w.heap.size + 1 + 1) (dgl b 1) (dgl b 0) else SlotIs.wbox (w.heap.size + 1 + 1) 0 0).R _ _
      rw [Bool.or_true]
      exact ⟨p7, e7, q7, wb_set l7, fun i => by simpa [go_sem] using z7 i⟩
    refine kSt rfl (fun φ hφ => gStep_run rfl (gRun_move 26 8 (.inr rfl) rfl (by decide +kernel) (fun v w h => h))) ?_
    exact kSt0
  · intro W hC
    refine gFi 19 rfl ?_
    rintro _ rfl
    refine gFi 20 rfl ?_
    rintro _ rfl
    refine gFi 21 rfl ?_
    rintro _ rfl
    refine gFi 22 rfl ?_
    rintro _ rfl
    refine gFi 23 rfl ?_
    rintro _ rfl
    refine gFi 24 rfl ?_
    rintro _ rfl
    refine gFi 18 rfl ?_
    rintro _ rfl
    refine gFi 25 rfl ?_
    rintro _ rfl
    refine gFi 26 rfl ?_
    rintro _ rfl
    refine gFi 7 rfl ?_
    rintro u7 b7
    refine gFiN rfl ?_
    refine gFi 8 rfl ?_
    rintro _ rfl
    refine gFi0 ?_
    simp only [List.drop_succ_cons, List.drop_zero, Act.put, List.setIfInBounds_toArray, List.set_cons_succ, List.set_cons_zero]
    obtain ⟨p7, rfl, q7, l7, z7⟩ := b7
    have HS := hide hC.1
    have HW := hide l7
    clear hC l7 q7 z7 h3 h4
    have lh := HW.out.h
    have ll := HW.out.l
    clear HW
    have rh := HS.out.r.h
    have rl := HS.out.r.l
    have hrf := HS.out.fr
    have hlt9 := HS.out.lt
    have HB := hide HS.out.bel
    clear HS
    go_wp2
    exact bodyPost_ret (v := .agg #[.int .u64 (dgl (b) 1 : Nat), .int .u64 (dgl (b) 0 : Nat)]) (by simp [results, Tryd.results42, go_sem, hlt9, rh, rl]) rfl ⟨rfl, (HB.out.setCell (p := ⟨w.heap.size + 1, 0, none⟩) (Nat.le_succ _) _).setCell (p := ⟨w.heap.size + 1, 1, none⟩) (Nat.le_succ _) _⟩
    

end Go.Proofs.YtpcjdllijkjdkaaDoor

