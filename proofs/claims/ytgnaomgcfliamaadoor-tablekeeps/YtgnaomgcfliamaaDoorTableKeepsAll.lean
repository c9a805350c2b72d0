/- For all parts the law radicandlaw14.TableKeeps returns true and leaves what came in as it was. Conditions: those of the tied card (the table of rows is laid as the program lays it). -/
import Derived.Test.YtgnaomgcfliamaaDoorPartAO
import Derived.Test.YtgnaomgcfliamaaDoorRows
import Derived.Test.YtgnaomgcfliamaaDoorTie
import Derived.Test.YtgnaomgcfliamaaDoorCards
import Derived.LaidMore
import Derived.Stop.Joined
import Derived.SevenTiedAt
import Derived.WalkKit
import Derived.ProofKit
import Derived.OpenShut
import Derived.ShutString
import Derived.ChangeOld
import Derived.Below
/- For all parts the law radicandlaw14.TableKeeps returns true. -/
set_option linter.unusedVariables false
set_option linter.unusedSimpArgs false
set_option maxRecDepth 8000
namespace Go.Proofs.YtgnaomgcfliamaaDoor
open Go.RowKit Plain

theorem u8_natT {a : Int} (h : (Lit.int .u8 a).wf = true) : ∃ x : Nat, a = (x : Int) ∧ x < 256 := by
  simp only [Lit.wf, Bool.and_eq_true, decide_eq_true_eq] at h
  have hmin : IntKind.u8.min = 0 := rfl
  have hmax : IntKind.u8.max = 255 := rfl
  exact ⟨a.toNat, by omega, by omega⟩
theorem keeps_num (i D q d y a : Int) (h1 : 8 ≤ i) (h2 : i ≤ 15) (hd : d = 3 * D) (hD1 : i * 65536 ≤ D) (hD2 : D < (i + 1) * 65536) (hq1 : 0 ≤ q) (hq2 : q ≤ 16 * D) (hy : y = -8 * D + q) (ha1 : 196608 * a ≤ y) (ha2 : y < 196608 * (a + 1)) :
    -2 ≤ chN (tabN i) a ∧ chN (tabN i) a ≤ 2 ∧ -2 * d ≤ 3 * (y - chN (tabN i) a * d) ∧ 3 * (y - chN (tabN i) a * d) ≤ 2 * d := by
  rcases (show i = 8 ∨ i = 9 ∨ i = 10 ∨ i = 11 ∨ i = 12 ∨ i = 13 ∨ i = 14 ∨ i = 15 by omega) with rfl | rfl | rfl | rfl | rfl | rfl | rfl | rfl
  · unfold chN
    rw [show tabN 8 0 = 12 from rfl, show tabN 8 1 = 3 from rfl, show tabN 8 2 = -5 from rfl, show tabN 8 3 = -13 from rfl]
    split
    · omega
    · split
      · omega
      · split
        · omega
        · split <;> omega
  · unfold chN
    rw [show tabN 9 0 = 14 from rfl, show tabN 9 1 = 4 from rfl, show tabN 9 2 = -6 from rfl, show tabN 9 3 = -15 from rfl]
    split
    · omega
    · split
      · omega
      · split
        · omega
        · split <;> omega
  · unfold chN
    rw [show tabN 10 0 = 15 from rfl, show tabN 10 1 = 4 from rfl, show tabN 10 2 = -6 from rfl, show tabN 10 3 = -16 from rfl]
    split
    · omega
    · split
      · omega
      · split
        · omega
        · split <;> omega
  · unfold chN
    rw [show tabN 11 0 = 16 from rfl, show tabN 11 1 = 4 from rfl, show tabN 11 2 = -7 from rfl, show tabN 11 3 = -18 from rfl]
    split
    · omega
    · split
      · omega
      · split
        · omega
        · split <;> omega
  · unfold chN
    rw [show tabN 12 0 = 18 from rfl, show tabN 12 1 = 5 from rfl, show tabN 12 2 = -8 from rfl, show tabN 12 3 = -20 from rfl]
    split
    · omega
    · split
      · omega
      · split
        · omega
        · split <;> omega
  · unfold chN
    rw [show tabN 13 0 = 19 from rfl, show tabN 13 1 = 5 from rfl, show tabN 13 2 = -8 from rfl, show tabN 13 3 = -21 from rfl]
    split
    · omega
    · split
      · omega
      · split
        · omega
        · split <;> omega
  · unfold chN
    rw [show tabN 14 0 = 20 from rfl, show tabN 14 1 = 5 from rfl, show tabN 14 2 = -9 from rfl, show tabN 14 3 = -23 from rfl]
    split
    · omega
    · split
      · omega
      · split
        · omega
        · split <;> omega
  · unfold chN
    rw [show tabN 15 0 = 22 from rfl, show tabN 15 1 = 6 from rfl, show tabN 15 2 = -10 from rfl, show tabN 15 3 = -25 from rfl]
    split
    · omega
    · split
      · omega
      · split
        · omega
        · split <;> omega

set_option maxHeartbeats 4000000 in
theorem tableKeeps_walk (part left row : Nat) (i D d P q y t a k kd : Int) (h8 : 8 ≤ i) (h15 : i ≤ 15) (hi : 8 + ((row : Nat) : Int) % 8 = i) (hd : i * 196608 + 3 * ((part : Nat) : Int) = d) (hdb : 0 ≤ d ∧ d ≤ 3145725) (hDb : 0 ≤ D ∧ D ≤ 1048575) (hp : part < 65536) (hl : left < 65536) (hr : row < 256)
    (h3 : (-8 * d).tdiv 3 = -8 * D) (h4 : 16 * d / 3 = 16 * D) (h5 : wrap64 (((left : Nat) : Int) * (16 * D)) = P) (h6 : P.tdiv 65535 = q) (hqb : 0 ≤ q ∧ q ≤ 16777200) (hy : -8 * D + q = y) (hyb : -8388600 ≤ y ∧ y ≤ 8388600)
    (h7 : y.tdiv 196608 = t) (htb : -50 ≤ t ∧ t ≤ 50) (ha : (y < t * 196608 ∧ t - 1 = a) ∨ (¬ y < t * 196608 ∧ t = a)) (hkb : -2 ≤ k ∧ k ≤ 2) (hkd : k * d = kd) (hkdb : -6291450 ≤ kd ∧ kd ≤ 6291450) (hk1 : -2 * d ≤ 3 * (y - kd)) (hk2 : 3 * (y - kd) ≤ 2 * d)
    (HDG : Hid (∀ w, TabG w → Calls Tryd.prog 8 #[.int .i64 i, .int .i64 a] w fun e w' => e = .returned (.tuple #[.int .i64 k, .bool true]) ∧ Below w.heap.size w w'))
    (HAW : Hid (∀ w, TabG w → Calls Tryd.prog 9 #[] w fun e w' => e = .returned (.bool true) ∧ Below w.heap.size w w')) (w : World) (hg : TabG w) :
    Calls Tryd.prog 6 #[.int .u16 (part : Nat), .int .u16 (left : Nat), .int .u8 (row : Nat)] w fun e w' => e = .returned (.bool true) ∧ Below w.heap.size w w' := by
  have HG := hide hg
  have HI := hide hi
  have HD := hide hd
  clear hg hi hd
  go_enter Tryd.func6, Tryd.ntmps6
  go_upto_region 4 with fail
  rw [HI.out, HD.out]
  go_upto_region 5 with fail
  clear h3 h4 h5 h6 hy HI HD
  rcases ha with ⟨hgt, hta⟩ | ⟨hgt, hta⟩
  · go_wp2_with fail
    refine (HDG.out _ HG.out).mono ?_
    rintro e w1 ⟨rfl, hb1⟩
    replace HG := hide (HG.out.below hb1)
    have HB := hide hb1
    clear hb1 HDG
    have k1 := hk1
    have k2 := hk2
    go_wp2_with fail
    refine (HAW.out _ HG.out).mono ?_
    rintro e w2 ⟨rfl, hb2⟩
    replace HB := hide (HB.out.trans (hb2.mono HB.out.size))
    clear hb2 HG HAW
    go_wp2
    go_ret
    exact ⟨rfl, HB.out⟩
  · go_wp2_with fail
    refine (HDG.out _ HG.out).mono ?_
    rintro e w1 ⟨rfl, hb1⟩
    replace HG := hide (HG.out.below hb1)
    have HB := hide hb1
    clear hb1 HDG
    have k1 := hk1
    have k2 := hk2
    go_wp2_with fail
    refine (HAW.out _ HG.out).mono ?_
    rintro e w2 ⟨rfl, hb2⟩
    replace HB := hide (HB.out.trans (hb2.mono HB.out.size))
    clear hb2 HG HAW
    go_wp2
    go_ret
    exact ⟨rfl, HB.out⟩

theorem tableKeeps_any (part left row : Nat) (hp : part < 65536) (hl : left < 65536) (hr : row < 256) (w : World) (hg : TabG w) :
    Calls Tryd.prog 6 #[.int .u16 (part : Nat), .int .u16 (left : Nat), .int .u8 (row : Nat)] w fun e w' => e = .returned (.bool true) ∧ Below w.heap.size w w' := by
  obtain ⟨i, hi⟩ : ∃ i : Int, 8 + ((row : Nat) : Int) % 8 = i := ⟨_, rfl⟩
  obtain ⟨d, hd⟩ : ∃ d : Int, i * 196608 + 3 * ((part : Nat) : Int) = d := ⟨_, rfl⟩
  obtain ⟨D, hD⟩ : ∃ D : Int, i * 65536 + ((part : Nat) : Int) = D := ⟨_, rfl⟩
  have hdD : d = 3 * D := by omega
  obtain ⟨P, hP⟩ : ∃ P : Int, ((left : Nat) : Int) * (16 * D) = P := ⟨_, rfl⟩
  have hP0 : 0 ≤ P := by rw [← hP]; exact Int.mul_nonneg (by omega) (by omega)
  have hP1 : P ≤ 65535 * (16 * D) := by rw [← hP]; exact Int.mul_le_mul_of_nonneg_right (by omega) (by omega)
  obtain ⟨q, hq⟩ : ∃ q : Int, P.tdiv 65535 = q := ⟨_, rfl⟩
  have hq2 : q = P / 65535 := by rw [← hq, Int.tdiv_eq_ediv_of_nonneg hP0]
  have h5 : wrap64 (((left : Nat) : Int) * (16 * D)) = P := by rw [hP]; unfold wrap64; omega
  obtain ⟨y, hy⟩ : ∃ y : Int, -8 * D + q = y := ⟨_, rfl⟩
  obtain ⟨t, ht⟩ : ∃ t : Int, y.tdiv 196608 = t := ⟨_, rfl⟩
  have htm : -196608 < y - t * 196608 ∧ y - t * 196608 < 196608 ∧ (0 ≤ y → 0 ≤ y - t * 196608) ∧ (y ≤ 0 → y - t * 196608 ≤ 0) := by
    rcases Int.le_total 0 y with h | h
    · rw [Int.tdiv_eq_ediv_of_nonneg h] at ht
      omega
    · have h1 : (-y).tdiv 196608 = -t := by rw [Int.neg_tdiv, ht]
      rw [Int.tdiv_eq_ediv_of_nonneg (by omega)] at h1
      omega
  obtain ⟨a, ha⟩ : ∃ a : Int, (y < t * 196608 ∧ t - 1 = a) ∨ (¬ y < t * 196608 ∧ t = a) := by
    by_cases h : y < t * 196608
    · exact ⟨t - 1, .inl ⟨h, rfl⟩⟩
    · exact ⟨t, .inr ⟨h, rfl⟩⟩
  have hn := keeps_num i D q d y a (by omega) (by omega) hdD (by omega) (by omega) (by omega) (by omega) hy.symm (by omega) (by omega)
  obtain ⟨k, hk⟩ : ∃ k : Int, chN (tabN i) a = k := ⟨_, rfl⟩
  rw [hk] at hn
  obtain ⟨kd, hkd⟩ : ∃ kd : Int, k * d = kd := ⟨_, rfl⟩
  rw [hkd] at hn
  have hkdb : -6291450 ≤ kd ∧ kd ≤ 6291450 := by
    rcases (show k = -2 ∨ k = -1 ∨ k = 0 ∨ k = 1 ∨ k = 2 by omega) with rfl | rfl | rfl | rfl | rfl <;> omega
  have h3 : (-8 * d).tdiv 3 = -8 * D := by
    rw [hdD, show -8 * (3 * D) = -8 * D * 3 by omega]
    exact Int.mul_tdiv_cancel _ (by omega)
  refine tableKeeps_walk part left row i D d P q y t a k kd (by omega) (by omega) hi hd (by omega) (by omega) hp hl hr h3 (by omega) h5 hq (by omega) hy (by omega) ht (by omega) ha ⟨hn.1, hn.2.1⟩ hkd hkdb hn.2.2.1 hn.2.2.2 (fun w hg => ?_) (fun w hg => awake14_any w hg) w hg
  rw [← hk]
  exact digit_yes i a (by omega) (by omega) w hg
end Go.Proofs.YtgnaomgcfliamaaDoor

/- For all parts the law radicandlaw14.TableKeeps returns true and leaves what came in as it was. Conditions: those of the tied card (the table of rows is laid as the program lays it). -/
namespace Go.Proofs.YtgnaomgcfliamaaDoor.tableKeeps
open Go.ChangeShapes Go.WideShapes Go.ChangeAt Go.RowKit Go.Proofs.YtgnaomgcfliamaaDoor

theorem own : ownKnob Tryd.prog.godebug = none := by kernel_rfl
theorem laidOut : laidOutB Tryd.prog = true := by kernel_rfl

theorem door_met (os : Os) (args : Array Value) : laidMetH Tryd.prog [("radicand/table.rows", Rows.laid_radicand_table_rows)] ((World.doorLaid Tryd.prog 400 os).forCall (fun _ _ => 0) ⟨#[], args, []⟩).memory :=
  laidMetH_of_parts3 (fuel := 8) (laidMet_of_run' 8 (by kernel_rfl) (by kernel_rfl)) (by kernel_rfl) (by kernel_rfl)

set_option maxRecDepth 100000 in
theorem lifted (os : Os) (started : os.Started) (H : Type) (enc : TypeId × Value → H) :
    ReturnsInHanded {} Tryd.checked os 6 .any (fun w args => (Rows.tableKeepsSpec.pre enc Tryd.prog Tryd.f6 [] false w args ∧ laidMetH Tryd.prog [("radicand/table.rows", Rows.laid_radicand_table_rows)] w) ∧ sizedMet enc Tryd.prog Tryd.f6 (OpenSpec.ofChange Rows.tableKeepsSpec) false w args) (Rows.tableKeepsSpec.post enc Tryd.prog Tryd.f6 false true false false) := by
  refine returnsInHanded_of_change_and (C := Tryd.checked) (X := fun w _ => laidMetH Tryd.prog [("radicand/table.rows", Rows.laid_radicand_table_rows)] w) (fun _ _ _ hh h => h.of_heap hh) own started (by kernel_rfl) Tryd.func6
    (ChangeSpec.witness_shaped (enc := enc) (C := Tryd.checked) (os := os) (X := fun w _ => laidMetH Tryd.prog [("radicand/table.rows", Rows.laid_radicand_table_rows)] w) false (World.doorLaid Tryd.prog 400 os) #[.int .u16 0, .int .u16 0, .int .u8 0] 8 rfl (World.shaped_of_RefB (by kernel_rfl) (by kernel_rfl)) (by kernel_rfl) (by kernel_rfl) (by kernel_rfl) (door_met os _)) ?_
  intro W base args ds gs before hval0 hW _ _ hL _
  have hval : ∀ (j : Nat) t v, Tryd.f6.params[j]? = some t → args[j]? = some v → Value.okWide Tryd.prog W .any base t v := hval0
  have hW' := hW
  obtain ⟨p, q, hA0, hV, rfl, hfz, hnd⟩ := hW
  have hA : DataW.TrodAll enc Tryd.prog W 0 (fun _ => true) true Tryd.f6.params.toList args.toList ds p := hA0
  rw [Tryd.params6] at hA hval
  obtain ⟨v0, vs0, d0, ds0, p0, q0, hargs, rfl, rfl, h0, r0⟩ := trodAll_cons hA
  obtain ⟨v1, vs1, d1, ds1, p1, q1, rfl, rfl, rfl, h1, r1⟩ := trodAll_cons r0
  obtain ⟨v2, vs2, d2, ds2, p2, q2, rfl, rfl, rfl, h2, r2⟩ := trodAll_cons r1
  obtain ⟨rfl, rfl, rfl⟩ := trodAll_nil r2
  obtain rfl : args = #[v0, v1, v2] := by cases args; simp_all
  obtain ⟨rfl, rfl⟩ := trodVars_none hV
  have k0 := h0
  have lt0 : ∀ x ∈ p0, x.block < W.heap.size := by obtain ⟨m, hm⟩ := k0; exact DataW.trod_lt m _ _ _ hm
  have k1 := h1
  have lt1 : ∀ x ∈ p1, x.block < W.heap.size := by obtain ⟨m, hm⟩ := k1; exact DataW.trod_lt m _ _ _ hm
  have k2 := h2
  have lt2 : ∀ x ∈ p2, x.block < W.heap.size := by obtain ⟨m, hm⟩ := k2; exact DataW.trod_lt m _ _ _ hm
  obtain ⟨a0, rfl, rfl, rfl, wf0⟩ := open_int Tryd.underlying47 (hval 0 47 v0 rfl rfl) h0
  obtain ⟨a1, rfl, rfl, rfl, wf1⟩ := open_int Tryd.underlying47 (hval 1 47 v1 rfl rfl) h1
  obtain ⟨a2, rfl, rfl, rfl, wf2⟩ := open_int Tryd.underlying5 (hval 2 5 v2 rfl rfl) h2
  clear hA0 hval0
  obtain ⟨x0, rfl, hx0⟩ := u16_nat wf0
  obtain ⟨x1, rfl, hx1⟩ := u16_nat wf1
  obtain ⟨x2, rfl, hx2⟩ := u8_natT wf2
  refine (tableKeeps_any x0 x1 x2 hx0 hx1 hx2 W (of_laidT hL)).mono fun e W' ⟨he, bel⟩ => ?_
  subst he
  exact ⟨_, rfl, _, _, _, [], _, [], hW', trodAll_mk1 (shut_bool Tryd.underlying4 _), (trodAll_cons_mk (Below.trod laidOut (by kernel_rfl) (of_decide_eq_true (by kernel_rfl)) k0 bel lt0) (trodAll_cons_mk (Below.trod laidOut (by kernel_rfl) (of_decide_eq_true (by kernel_rfl)) k1 bel lt1) (trodAll_cons_mk (Below.trod laidOut (by kernel_rfl) (of_decide_eq_true (by kernel_rfl)) k2 bel lt2) trodAll_mk0))), rfl, bel.frame _, fun h => by cases h⟩

theorem over : Rows.tableKeepsRow.holds Tryd.pinned (OpenSpec.ofChange Rows.tableKeepsSpec) :=
  OpenClaim.holds_of_wide 6 Tryd.f6 rfl rfl rfl rfl rfl rfl rfl ⟨rfl, rfl, rfl, rfl, rfl⟩ rfl rfl rfl rfl rfl (by kernel_rfl) Tryd.func6 (by kernel_rfl)
    (of_decide_eq_true (by kernel_rfl)) (by unfold Func.isWrapper; first | (rw [if_pos (by decide +kernel)]; kernel_rfl) | (rw [if_neg (by decide +kernel)]; exact ⟨rfl, rfl⟩))
    (fun os started H enc _ => lifted os started H enc)

theorem proved : Rows.TableKeepsCardSaid :=
  Claim7.holds_tied_plain_at .later [] [.data] true (true, "90533070d59ca3dca7ee7d7287752f05f0363729b90e157f5fc6aba06ef85e57") false
    over (fun _ h => by cases h) (by kernel_rfl) (fun _ h => by cases h) tableKeeps_row_tie rfl ⟨rfl, rfl⟩ (by kernel_rfl) rfl
    (fun f fn hf hfn => by
      obtain rfl : f = 6 := Option.some.inj ((show Tryd.prog.funcNamed "radicand/radicandlaw14.TableKeeps" = some 6 by kernel_rfl).symm.trans hf) |>.symm
      obtain rfl : fn = Tryd.f6 := (Option.some.inj (Tryd.func6.symm.trans hfn)).symm
      exact ⟨by kernel_rfl, fun j t ht => by
        rw [Tryd.params6] at ht
        rcases j with _ | j
        · obtain rfl : t = 47 := by simpa using ht.symm
          exact (show Tryd.prog.wantsStandIn 47 = false by kernel_rfl)
        rcases j with _ | j
        · obtain rfl : t = 47 := by simpa using ht.symm
          exact (show Tryd.prog.wantsStandIn 47 = false by kernel_rfl)
        rcases j with _ | j
        · obtain rfl : t = 5 := by simpa using ht.symm
          exact (show Tryd.prog.wantsStandIn 5 = false by kernel_rfl)
        simp at ht⟩)
    (by kernel_rfl)
#print axioms proved
end Go.Proofs.YtgnaomgcfliamaaDoor.tableKeeps

