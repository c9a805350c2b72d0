/- The walk over radicandlaw02.WideAdds. -/
import Derived.Test.YtpeobjddpdffiaaWideK
import Derived.Deep.DeepCutAuto
set_option linter.unusedVariables false
namespace Go.Proofs.Ytpeobjddpdffiaa
open Go.RowKit Plain

/-- Eight limbs lie in a block of the world. -/
def LiesF (w : World) (b : Nat) (f : Nat → Nat) : Prop := (∀ i, i < 8 → w.cell? ⟨b, i, none⟩ = some (.int .u64 (f i : Nat))) ∧ b < w.heap.size
theorem LiesF.below {w w' : World} {b : Nat} {f : Nat → Nat} (h : LiesF w b f) (hb : Below w.heap.size w w') : LiesF w' b f :=
  ⟨fun i hi => (hb.cell (p := ⟨b, i, none⟩) h.2).trans (h.1 i hi), Nat.lt_of_lt_of_le h.2 hb.size⟩
theorem below_allocs (w : World) (o : Obj) : Below w.heap.size w (w.alloc o) := (Below.refl _ _).alloc (Nat.le_refl _) o
theorem LiesF.alloc {w : World} {b : Nat} {f : Nat → Nat} (h : LiesF w b f) (o : Obj) : LiesF (w.alloc o) b f := h.below (below_allocs w o)
theorem LiesF.drew {w : World} {b : Nat} {f : Nat → Nat} (h : LiesF w b f) : LiesF w.drew b f := h
theorem liesF_new (w : World) (f : Nat → Nat) (e : TypeId) : LiesF (w.alloc (.cells #[.int .u64 (f 0 : Nat), .int .u64 (f 1 : Nat), .int .u64 (f 2 : Nat), .int .u64 (f 3 : Nat), .int .u64 (f 4 : Nat), .int .u64 (f 5 : Nat), .int .u64 (f 6 : Nat), .int .u64 (f 7 : Nat)] e)) w.heap.size f := by
  refine ⟨fun i hi => ?_, by simp⟩
  match i, hi with
  | 0, _ => simp [go_sem]
  | 1, _ => simp [go_sem]
  | 2, _ => simp [go_sem]
  | 3, _ => simp [go_sem]
  | 4, _ => simp [go_sem]
  | 5, _ => simp [go_sem]
  | 6, _ => simp [go_sem]
  | 7, _ => simp [go_sem]

structure AddsSt (w0 : World) (fa fb : Nat → Nat) (a b : Nat) (x y : Value) (W : World) : Prop where
  la : LiesF W w0.heap.size fa
  lb : LiesF W (w0.heap.size + 1) fb
  x : BigV W x a 40
  y : BigV W y b 40
  bel : Below w0.heap.size w0 W
theorem AddsSt.below {w0 : World} {fa fb : Nat → Nat} {a b : Nat} {x y : Value} {W W' : World} (h : AddsSt w0 fa fb a b x y W) (hb : Below W.heap.size W W') : AddsSt w0 fa fb a b x y W' :=
  ⟨h.la.below hb, h.lb.below hb, h.x.below hb, h.y.below hb, below_trans h.bel hb⟩
theorem AddsSt.alloc {w0 : World} {fa fb : Nat → Nat} {a b : Nat} {x y : Value} {W : World} (h : AddsSt w0 fa fb a b x y W) (o : Obj) : AddsSt w0 fa fb a b x y (W.alloc o) := h.below (below_allocs W o)

set_option maxHeartbeats 400000 in
theorem wideAdds_first (fa fb fs fd : Nat → Nat) (a b d : Nat) (o l p : Bool) (c : Int) (w : World)
    (HBA : Hid (∀ w, Calls Try.prog 33 #[.agg #[.int .u64 (fa 0 : Nat), .int .u64 (fa 1 : Nat), .int .u64 (fa 2 : Nat), .int .u64 (fa 3 : Nat), .int .u64 (fa 4 : Nat), .int .u64 (fa 5 : Nat), .int .u64 (fa 6 : Nat), .int .u64 (fa 7 : Nat)]] w fun e w' => ∃ v, e = .returned v ∧ BigV w' v a 40 ∧ Below w.heap.size w w'))
    (HBB : Hid (∀ w, Calls Try.prog 33 #[.agg #[.int .u64 (fb 0 : Nat), .int .u64 (fb 1 : Nat), .int .u64 (fb 2 : Nat), .int .u64 (fb 3 : Nat), .int .u64 (fb 4 : Nat), .int .u64 (fb 5 : Nat), .int .u64 (fb 6 : Nat), .int .u64 (fb 7 : Nat)]] w fun e w' => ∃ v, e = .returned v ∧ BigV w' v b 40 ∧ Below w.heap.size w w'))
    (HADD : Hid (∀ w, Calls Try.prog 34 #[.agg #[.int .u64 (fa 0 : Nat), .int .u64 (fa 1 : Nat), .int .u64 (fa 2 : Nat), .int .u64 (fa 3 : Nat), .int .u64 (fa 4 : Nat), .int .u64 (fa 5 : Nat), .int .u64 (fa 6 : Nat), .int .u64 (fa 7 : Nat)], .agg #[.int .u64 (fb 0 : Nat), .int .u64 (fb 1 : Nat), .int .u64 (fb 2 : Nat), .int .u64 (fb 3 : Nat), .int .u64 (fb 4 : Nat), .int .u64 (fb 5 : Nat), .int .u64 (fb 6 : Nat), .int .u64 (fb 7 : Nat)]] w fun e w' => e = .returned (.tuple #[.agg #[.int .u64 (fs 0 : Nat), .int .u64 (fs 1 : Nat), .int .u64 (fs 2 : Nat), .int .u64 (fs 3 : Nat), .int .u64 (fs 4 : Nat), .int .u64 (fs 5 : Nat), .int .u64 (fs 6 : Nat), .int .u64 (fs 7 : Nat)], .bool o]) ∧ Below w.heap.size w w'))
    (HSUB : Hid (∀ w, Calls Try.prog 35 #[.agg #[.int .u64 (fa 0 : Nat), .int .u64 (fa 1 : Nat), .int .u64 (fa 2 : Nat), .int .u64 (fa 3 : Nat), .int .u64 (fa 4 : Nat), .int .u64 (fa 5 : Nat), .int .u64 (fa 6 : Nat), .int .u64 (fa 7 : Nat)], .agg #[.int .u64 (fb 0 : Nat), .int .u64 (fb 1 : Nat), .int .u64 (fb 2 : Nat), .int .u64 (fb 3 : Nat), .int .u64 (fb 4 : Nat), .int .u64 (fb 5 : Nat), .int .u64 (fb 6 : Nat), .int .u64 (fb 7 : Nat)]] w fun e w' => e = .returned (.tuple #[.agg #[.int .u64 (fd 0 : Nat), .int .u64 (fd 1 : Nat), .int .u64 (fd 2 : Nat), .int .u64 (fd 3 : Nat), .int .u64 (fd 4 : Nat), .int .u64 (fd 5 : Nat), .int .u64 (fd 6 : Nat), .int .u64 (fd 7 : Nat)], .bool l]) ∧ Below w.heap.size w w'))
    (HRW : Hid (∀ v w, BigV w v (a + b) 41 → Calls Try.prog 36 #[v] w fun e w' => e = .returned (.tuple #[.agg #[.int .u64 (fs 0 : Nat), .int .u64 (fs 1 : Nat), .int .u64 (fs 2 : Nat), .int .u64 (fs 3 : Nat), .int .u64 (fs 4 : Nat), .int .u64 (fs 5 : Nat), .int .u64 (fs 6 : Nat), .int .u64 (fs 7 : Nat)], .bool o]) ∧ Below w.heap.size w w'))
    (HCMP : Hid (∀ w, Calls Try.prog 37 #[.agg #[.int .u64 (fa 0 : Nat), .int .u64 (fa 1 : Nat), .int .u64 (fa 2 : Nat), .int .u64 (fa 3 : Nat), .int .u64 (fa 4 : Nat), .int .u64 (fa 5 : Nat), .int .u64 (fa 6 : Nat), .int .u64 (fa 7 : Nat)], .agg #[.int .u64 (fb 0 : Nat), .int .u64 (fb 1 : Nat), .int .u64 (fb 2 : Nat), .int .u64 (fb 3 : Nat), .int .u64 (fb 4 : Nat), .int .u64 (fb 5 : Nat), .int .u64 (fb 6 : Nat), .int .u64 (fb 7 : Nat)]] w fun e w' => e = .returned (.int .i64 c) ∧ Below w.heap.size w w'))
    (HRC : Hid (∀ x y w, BigV w x a 40 → BigV w y b 40 → Calls Try.prog 17 #[x, y] w fun e w' => e = .returned (.int .i64 c) ∧ w' = w))
    (hcl : decide (c < 0) = l)
    (HBD : Hid (∀ w, Calls Try.prog 33 #[.agg #[.int .u64 (fd 0 : Nat), .int .u64 (fd 1 : Nat), .int .u64 (fd 2 : Nat), .int .u64 (fd 3 : Nat), .int .u64 (fd 4 : Nat), .int .u64 (fd 5 : Nat), .int .u64 (fd 6 : Nat), .int .u64 (fd 7 : Nat)]] w fun e w' => ∃ v, e = .returned v ∧ BigV w' v d 40 ∧ Below w.heap.size w w'))
    (HRB : Hid (∀ v w, BigV w v (d + b) 41 → Calls Try.prog 36 #[v] w fun e w' => e = .returned (.tuple #[.agg #[.int .u64 (fa 0 : Nat), .int .u64 (fa 1 : Nat), .int .u64 (fa 2 : Nat), .int .u64 (fa 3 : Nat), .int .u64 (fa 4 : Nat), .int .u64 (fa 5 : Nat), .int .u64 (fa 6 : Nat), .int .u64 (fa 7 : Nat)], .bool p]) ∧ Below w.heap.size w w'))
    (hss : ∀ w, (Op.equalIn 10000 50 (.agg #[.int .u64 (fs 0 : Nat), .int .u64 (fs 1 : Nat), .int .u64 (fs 2 : Nat), .int .u64 (fs 3 : Nat), .int .u64 (fs 4 : Nat), .int .u64 (fs 5 : Nat), .int .u64 (fs 6 : Nat), .int .u64 (fs 7 : Nat)]) (.agg #[.int .u64 (fs 0 : Nat), .int .u64 (fs 1 : Nat), .int .u64 (fs 2 : Nat), .int .u64 (fs 3 : Nat), .int .u64 (fs 4 : Nat), .int .u64 (fs 5 : Nat), .int .u64 (fs 6 : Nat), .int .u64 (fs 7 : Nat)])).run Try.prog w = .ok true w)
    (hsa : ∀ w, (Op.equalIn 10000 50 (.agg #[.int .u64 (fa 0 : Nat), .int .u64 (fa 1 : Nat), .int .u64 (fa 2 : Nat), .int .u64 (fa 3 : Nat), .int .u64 (fa 4 : Nat), .int .u64 (fa 5 : Nat), .int .u64 (fa 6 : Nat), .int .u64 (fa 7 : Nat)]) (.agg #[.int .u64 (fa 0 : Nat), .int .u64 (fa 1 : Nat), .int .u64 (fa 2 : Nat), .int .u64 (fa 3 : Nat), .int .u64 (fa 4 : Nat), .int .u64 (fa 5 : Nat), .int .u64 (fa 6 : Nat), .int .u64 (fa 7 : Nat)])).run Try.prog w = .ok true w) :
    Calls Try.prog 7 #[.agg #[.int .u64 (fa 0 : Nat), .int .u64 (fa 1 : Nat), .int .u64 (fa 2 : Nat), .int .u64 (fa 3 : Nat), .int .u64 (fa 4 : Nat), .int .u64 (fa 5 : Nat), .int .u64 (fa 6 : Nat), .int .u64 (fa 7 : Nat)], .agg #[.int .u64 (fb 0 : Nat), .int .u64 (fb 1 : Nat), .int .u64 (fb 2 : Nat), .int .u64 (fb 3 : Nat), .int .u64 (fb 4 : Nat), .int .u64 (fb 5 : Nat), .int .u64 (fb 6 : Nat), .int .u64 (fb 7 : Nat)]] w fun e w' => e = .returned (.bool true) ∧ Below w.heap.size w w' := by
  have HLA := hide ((liesF_new w fa 50).alloc (.cells #[.int .u64 (fb 0 : Nat), .int .u64 (fb 1 : Nat), .int .u64 (fb 2 : Nat), .int .u64 (fb 3 : Nat), .int .u64 (fb 4 : Nat), .int .u64 (fb 5 : Nat), .int .u64 (fb 6 : Nat), .int .u64 (fb 7 : Nat)] 50))
  have hlb := liesF_new (w.alloc (.cells #[.int .u64 (fa 0 : Nat), .int .u64 (fa 1 : Nat), .int .u64 (fa 2 : Nat), .int .u64 (fa 3 : Nat), .int .u64 (fa 4 : Nat), .int .u64 (fa 5 : Nat), .int .u64 (fa 6 : Nat), .int .u64 (fa 7 : Nat)] 50)) fb 50
  rw [World.size_alloc] at hlb
  have HLB := hide hlb
  clear hlb
  have HW0 := hide (below_trans (below_allocs w (.cells #[.int .u64 (fa 0 : Nat), .int .u64 (fa 1 : Nat), .int .u64 (fa 2 : Nat), .int .u64 (fa 3 : Nat), .int .u64 (fa 4 : Nat), .int .u64 (fa 5 : Nat), .int .u64 (fa 6 : Nat), .int .u64 (fa 7 : Nat)] 50)) (below_allocs (w.alloc (.cells #[.int .u64 (fa 0 : Nat), .int .u64 (fa 1 : Nat), .int .u64 (fa 2 : Nat), .int .u64 (fa 3 : Nat), .int .u64 (fa 4 : Nat), .int .u64 (fa 5 : Nat), .int .u64 (fa 6 : Nat), .int .u64 (fa 7 : Nat)] 50)) (.cells #[.int .u64 (fb 0 : Nat), .int .u64 (fb 1 : Nat), .int .u64 (fb 2 : Nat), .int .u64 (fb 3 : Nat), .int .u64 (fb 4 : Nat), .int .u64 (fb 5 : Nat), .int .u64 (fb 6 : Nat), .int .u64 (fb 7 : Nat)] 50)))
  go_enter Try.func7, Try.ntmps7
  go_upto_region 1 with fail
  go_cut [5, 6] from 16 to 19 (fun x y wx => BigV wx x a 40 ∧ BigV wx y b 40 ∧ LiesF wx w.heap.size fa ∧ LiesF wx (w.heap.size + 1) fb ∧ Below w.heap.size w wx)
  case first =>
    go_region_with (go_at_call 33; first
      | ((with_reducible refine (HBA.out _).mono ?_); rintro e wA ⟨vA, rfl, hbA, hwA⟩; have hA0 := (by first | exact (HLB.out.drew).below hwA | exact hB0.below hwA : LiesF wA (w.heap.size + 1) fb); have hA1 := (by first | exact (HLA.out.drew).below hwA | exact hB1.below hwA : LiesF wA w.heap.size fa); have hA2 := (by first | exact HW0.out.drew.trans (hwA.mono HW0.out.size) | exact below_trans hB2 hwA : Below w.heap.size w wA); have hcA := hA0.1)
      | ((with_reducible refine (HBB.out _).mono ?_); rintro e wB ⟨vB, rfl, hbB, hwB⟩; have hB0 := (by first | exact (HLB.out.drew).below hwB | exact hA0.below hwB : LiesF wB (w.heap.size + 1) fb); have hB1 := (by first | exact (HLA.out.drew).below hwB | exact hA1.below hwB : LiesF wB w.heap.size fa); have hB2 := (by first | exact HW0.out.drew.trans (hwB.mono HW0.out.size) | exact below_trans hA2 hwB : Below w.heap.size w wB); have hcB := hB1.1))
    all_goals
      go_wp2_with fail
      go_meet
      first
        | exact ⟨hbA, hbB.below hwA, hA1, hA0, hA2⟩
        | exact ⟨hbA.below hwB, hbB, hB1, hB0, hB2⟩
  case rest =>
    obtain ⟨hx, hy, hla, hlb, hbel⟩ := hcut
    clear HLA HLB HW0
    have HST := hide (AddsSt.mk hla hlb hx hy hbel)
    have hca := hla.1
    have hcb := hlb.1
    clear hla hlb hx hy hbel
    go_wp2_with fail
    refine (HADD.out _).mono ?_
    rintro e w3 ⟨rfl, h3⟩
    replace HST := hide (HST.out.below h3)
    clear hca hcb h3
    go_upto_region 3 with fail
    refine wp_gen (fun W => AddsSt w fa fb a b u5 u6 W ∧ LiesF W w3.heap.size fs) ⟨HST.out.alloc _, liesF_new _ _ _⟩ ?_
    rintro W3 ⟨hst, hls⟩
    replace HST := hide hst
    have HLS := hide hls
    have hca := hst.la.1
    have hcb := hst.lb.1
    clear hst hls
    go_wp2_with fail
    refine (HSUB.out _).mono ?_
    rintro e w4 ⟨rfl, h4⟩
    replace HST := hide (HST.out.below h4)
    replace HLS := hide (HLS.out.below h4)
    clear hca hcb h4
    go_upto_region 4 with fail
    refine wp_gen (fun W => AddsSt w fa fb a b u5 u6 W ∧ LiesF W w3.heap.size fs ∧ LiesF W w4.heap.size fd) ⟨HST.out.alloc _, HLS.out.alloc _, liesF_new _ _ _⟩ ?_
    rintro W4 ⟨hst, hls, hld⟩
    replace HST := hide hst
    replace HLS := hide hls
    have HLD := hide hld
    clear hst hls hld
    go_wp2_with fail
    refine (refAdd_any a b 40 40 _ _ _ HST.out.x HST.out.y (by omega) (by omega)).mono ?_
    rintro e w5 ⟨v5, rfl, hb5, h5⟩
    replace HST := hide (HST.out.below h5)
    replace HLS := hide (HLS.out.below h5)
    replace HLD := hide (HLD.out.below h5)
    clear h5
    go_wp2_with fail
    refine (HRW.out _ _ hb5).mono ?_
    rintro e w6 ⟨rfl, h6⟩
    replace HST := hide (HST.out.below h6)
    replace HLS := hide (HLS.out.below h6)
    replace HLD := hide (HLD.out.below h6)
    clear h6 hb5
    go_upto_region 5 with fail
    refine wp_gen (fun W => AddsSt w fa fb a b u5 u6 W ∧ LiesF W w3.heap.size fs ∧ LiesF W w4.heap.size fd ∧ LiesF W w6.heap.size fs) ⟨HST.out.alloc _, HLS.out.alloc _, HLD.out.alloc _, liesF_new _ _ _⟩ ?_
    rintro W6 ⟨hst, hls, hld, hlw⟩
    replace HST := hide hst
    replace HLD := hide hld
    have hcs := hls.1
    have hcw := hlw.1
    have hca := hst.la.1
    have hcb := hst.lb.1
    clear hst hls hld hlw HLS
    go_wp2_with fail
    refine (HRC.out _ _ _ HST.out.x HST.out.y).mono ?_
    rintro e w' ⟨rfl, hw⟩
    subst w'
    go_wp2_with fail
    refine (HCMP.out _).mono ?_
    rintro e w7 ⟨rfl, h7⟩
    replace HST := hide (HST.out.below h7)
    have hcd := (HLD.out.below h7).1
    clear h7 hca hcb hcs hcw HLD
    go_wp2_with fail
    refine (HBD.out _).mono ?_
    rintro e w8 ⟨v8, rfl, hb8, h8⟩
    replace HST := hide (HST.out.below h8)
    clear h8 hcd
    go_wp2_with fail
    refine (refAdd_any d b 40 40 _ _ _ hb8 HST.out.y (by omega) (by omega)).mono ?_
    rintro e w9 ⟨v9, rfl, hb9, h9⟩
    replace HST := hide (HST.out.below h9)
    clear h9 hb8
    go_wp2_with fail
    refine (HRB.out _ _ hb9).mono ?_
    rintro e w10 ⟨rfl, h10⟩
    replace HST := hide (HST.out.below h10)
    clear h10 hb9
    go_upto_region 9 with fail
    refine wp_gen (fun W => AddsSt w fa fb a b u5 u6 W ∧ LiesF W w10.heap.size fa) ⟨HST.out.alloc _, liesF_new _ _ _⟩ ?_
    rintro W10 ⟨hst, hlk⟩
    replace HST := hide hst
    have hca := hst.la.1
    have hck := hlk.1
    clear hst hlk
    go_wp2_with fail
    refine (awake2_any _).mono ?_
    rintro e w11 ⟨rfl, h11⟩
    go_wp2
    go_ret
    exact ⟨rfl, below_trans HST.out.bel h11⟩

theorem wide_sameF (f : Nat → Nat) (w : World) : (Op.equalIn 10000 50 (.agg #[.int .u64 (f 0 : Nat), .int .u64 (f 1 : Nat), .int .u64 (f 2 : Nat), .int .u64 (f 3 : Nat), .int .u64 (f 4 : Nat), .int .u64 (f 5 : Nat), .int .u64 (f 6 : Nat), .int .u64 (f 7 : Nat)]) (.agg #[.int .u64 (f 0 : Nat), .int .u64 (f 1 : Nat), .int .u64 (f 2 : Nat), .int .u64 (f 3 : Nat), .int .u64 (f 4 : Nat), .int .u64 (f 5 : Nat), .int .u64 (f 6 : Nat), .int .u64 (f 7 : Nat)])).run Try.prog w = .ok true w := by
  have := wide_equal f f w
  simpa using this

theorem back_digit (a b i : Nat) (hi : i < 8) (ha : a < QQ) (hb : b < QQ) : dgl (subQ a b + b) i = dgl a i := by
  have h := subW_eq (β := 18446744073709551616) (by decide) 8 a b
  rw [show b % 18446744073709551616 ^ 8 = b from Nat.mod_eq_of_lt hb, show a % 18446744073709551616 ^ 8 = a from Nat.mod_eq_of_lt ha] at h
  have e : subQ a b + b = a + 18446744073709551616 ^ 8 * bor 18446744073709551616 a b 8 := h
  have h1 := wide_end (Q := 18446744073709551616) (by decide) (subQ a b + b) 8 i hi
  have h2 := wide_end (Q := 18446744073709551616) (by decide) a 8 i hi
  unfold dgl
  rw [← h1, ← h2, e, Nat.add_mul_mod_self_left]

theorem wideAdds_walk (a b : Nat) (ha : a < QQ) (hb : b < QQ) (w : World) :
    Calls Try.prog 7 #[.agg #[.int .u64 (dgl (a) 0 : Nat), .int .u64 (dgl (a) 1 : Nat), .int .u64 (dgl (a) 2 : Nat), .int .u64 (dgl (a) 3 : Nat), .int .u64 (dgl (a) 4 : Nat), .int .u64 (dgl (a) 5 : Nat), .int .u64 (dgl (a) 6 : Nat), .int .u64 (dgl (a) 7 : Nat)], .agg #[.int .u64 (dgl (b) 0 : Nat), .int .u64 (dgl (b) 1 : Nat), .int .u64 (dgl (b) 2 : Nat), .int .u64 (dgl (b) 3 : Nat), .int .u64 (dgl (b) 4 : Nat), .int .u64 (dgl (b) 5 : Nat), .int .u64 (dgl (b) 6 : Nat), .int .u64 (dgl (b) 7 : Nat)]] w fun e w' => e = .returned (.bool true) ∧ Below w.heap.size w w' := by
  refine wideAdds_first (dgl a) (dgl b) (dgl (a + b)) (dgl (subQ a b)) a b (subQ a b) (decide (QQ ≤ a + b)) (decide (a < b)) (decide (QQ ≤ subQ a b + b)) (cmpN a b) w
    (fun w => refBig_any a ha w) (fun w => refBig_any b hb w) (fun w => wideAdd_any a b ha hb w) (fun w => wideSub_any a b ha hb w) (fun v w h => refWide_any (a + b) 41 v w h)
    (fun w => wideCmp_any a b ha hb w) (fun x y w hx hy => cmp_any a b 40 40 x y w hx hy) ?_ (fun w => refBig_any (subQ a b) (subQ_lt a b) w) (fun v w h => ?_)
    (fun w => wide_sameF _ w) (fun w => wide_sameF _ w)
  · rw [decide_eq_decide]
    unfold cmpN
    split
    · simp [*]
    · split <;> simp [*]
  · have hw := refWide_any (subQ a b + b) 41 v w h
    rw [w8_congr (x := dgl (subQ a b + b)) (y := dgl a) (fun i hi => back_digit a b i hi ha hb)] at hw
    exact hw

end Go.Proofs.Ytpeobjddpdffiaa
