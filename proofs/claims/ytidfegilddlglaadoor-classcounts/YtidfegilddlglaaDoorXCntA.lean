/- Contracts and laws: CntA. -/
import Derived.Test.YtidfegilddlglaaDoorXClsV
import Derived.Test.YtidfegilddlglaaDoorXClsO
import Derived.Deep.Slices
/- Contracts: class.Count; slices of words; arrays of seven ints. -/
set_option linter.unusedVariables false
set_option linter.unusedSimpArgs false
set_option maxRecDepth 8000
namespace Go.Proofs.YtidfegilddlglaaDoor
open Go.ChangeShapes Go.WideShapes Go.ChangeAt Go.RowKit Go.Deep Plain

theorem clsP_le (P F fd r : Nat) : clsP P F fd r ≤ 6 := by
  unfold clsP
  repeat' split
  all_goals decide
theorem clsN_le (B P F a : Nat) : clsN B P F a ≤ 6 := by
  unfold clsN
  split
  · exact clsP_le _ _ _ _
  · decide
theorem clsU_le (f : Int) (a : Nat) : clsU f a ≤ 6 := by
  unfold clsU tU
  repeat' split
  all_goals first | exact clsN_le _ _ _ _ | decide

/-- A slice of words. -/
def RdD (w : World) (v : Value) (l : List Nat) : Prop :=
  ∃ ao cap, v = .slice ao l.length cap ∧ l.length ≤ cap ∧ cap ≤ maxLen ∧
    (l.length = 0 ∨ ∃ b off, ao = some ⟨b, off, none⟩ ∧ b < w.heap.size ∧ ∀ i, i < l.length → w.cell? ⟨b, off + i * 2, none⟩ = some (.int .u64 (dgl (dg l i) 1 : Nat)) ∧ w.cell? ⟨b, off + i * 2 + 1, none⟩ = some (.int .u64 (dgl (dg l i) 0 : Nat)))
theorem RdD.below {w w' : World} {v : Value} {l : List Nat} (h : RdD w v l) (hb : Below w.heap.size w w') : RdD w' v l := by
  obtain ⟨ao, cap, rfl, hc, hm, h⟩ := h
  refine ⟨ao, cap, rfl, hc, hm, ?_⟩
  rcases h with h | ⟨b, off, rfl, hlt, hcell⟩
  · exact .inl h
  · exact .inr ⟨b, off, rfl, Nat.lt_of_lt_of_le hlt hb.size, fun i hi => ⟨(hb.cell (p := ⟨b, off + i * 2, none⟩) hlt).trans (hcell i hi).1, (hb.cell (p := ⟨b, off + i * 2 + 1, none⟩) hlt).trans (hcell i hi).2⟩⟩

theorem word_cells {H : Type} {enc : TypeId × Value → H} {W : World} {base n : Nat} {sp : Nat → Bool} {held : Bool} {cs : List Value} {q : DataW H × List MemPlace}
    (hlen : cs.length = 2) (h : DataW.trod enc Tryd.prog W base sp held n 24 cs = some q) : ∃ x y : Nat, x < 18446744073709551616 ∧ y < 18446744073709551616 ∧ cs = [.int .u64 (x : Nat), .int .u64 (y : Nat)] := by
  obtain ⟨y0, y1, m, hx, _, h0, h1⟩ := trod_struct2 Tryd.underlying24 h
  obtain ⟨a0, e0, _, wa0⟩ := DataW.trod_int Tryd.underlying22 h0
  obtain ⟨a1, e1, _, wa1⟩ := DataW.trod_int Tryd.underlying22 h1
  obtain ⟨x, rfl, hx⟩ := u64_nat wa0
  obtain ⟨y, rfl, hy⟩ := u64_nat wa1
  have hc : Tryd.prog.cellsOf 22 = 1 := by kernel_rfl
  match cs, hlen with
  | [c0, c1], _ =>
    simp [hc] at e0 e1
    subst e0 e1
    exact ⟨x, y, hx, hy, rfl⟩

theorem words_of_trod {H : Type} {enc : TypeId × Value → H} {W : World} {r : Reach} {b0 base : Nat} {sp : Nat → Bool} {held : Bool} {v : Value} {d : DataW H} {ps : List MemPlace}
    (hval : Value.okWide Tryd.prog W r b0 44 v) (hd : DataW.Trod enc Tryd.prog W base sp held 44 v d ps) : ∃ l, RdD W v l ∧ ∀ i, dg l i < 2 ^ 128 := by
  obtain ⟨a0, len0, cap0, rfl⟩ := okWide_slice Tryd.underlying44 hval
  have hc : Tryd.prog.cellsOf 24 = 2 := by kernel_rfl
  obtain ⟨fuel, hf⟩ := hd
  rcases open_slice Tryd.underlying44 hf with ⟨hcs, _⟩ | ⟨a, len, cap, m, n, D, Pl, hcs, hb, hl, hm, hmm, _, hget⟩
  · simp [Value.cells] at hcs
    obtain ⟨rfl, rfl, rfl⟩ := hcs
    exact ⟨[], ⟨none, 0, rfl, Nat.le_refl _, by simp [maxLen], .inl rfl⟩, fun i => by rw [getD_past _ _ (by simp)]; decide⟩
  · simp [Value.cells] at hcs
    obtain ⟨rfl, rfl, rfl⟩ := hcs
    have hlm : len0 ≤ m := by rw [hmm]; split <;> omega
    rw [hc] at hget
    have hel : ∀ i, i < len0 → ∃ x, x < 2 ^ 128 ∧ W.cell? (a.add (i * 2)) = some (.int .u64 (dgl x 1 : Nat)) ∧ W.cell? ((a.add (i * 2)).add 1) = some (.int .u64 (dgl x 0 : Nat)) := by
      intro i hi
      obtain ⟨cs', h1, h2⟩ := hget i (by omega)
      obtain ⟨_, hlen, hcell⟩ := World.cells?_some h1
      obtain ⟨x, y, hx, hy, e⟩ := word_cells hlen h2
      have e2 := word_num x y hx hy
      refine ⟨y + 18446744073709551616 * x, by omega, ?_, ?_⟩
      · have := hcell 0 (by decide)
        rw [e] at this
        rw [e2.1]
        simpa [Go.WideShapes.add_plain, Addr.add] using this
      · have := hcell 1 (by decide)
        rw [e] at this
        rw [e2.2]
        simpa using this
    have hch : ∃ f : Nat → Nat, ∀ i, i < len0 → f i < 2 ^ 128 ∧ W.cell? (a.add (i * 2)) = some (.int .u64 (dgl (f i) 1 : Nat)) ∧ W.cell? ((a.add (i * 2)).add 1) = some (.int .u64 (dgl (f i) 0 : Nat)) :=
      ⟨fun i => if hi : i < len0 then Classical.choose (hel i hi) else 0, fun i hi => by simp only [dif_pos hi]; exact Classical.choose_spec (hel i hi)⟩
    obtain ⟨f, hfx⟩ := hch
    refine ⟨(List.range len0).map f, ⟨some a, cap0, by simp, by simpa using hl, hm, ?_⟩, fun i => ?_⟩
    · by_cases h0 : len0 = 0
      · exact .inl (by simp [h0])
      · obtain ⟨b, off, spot⟩ := a
        have hspot : spot = none := by simpa [Addr.add] using World.cell?_spot (hfx 0 (by omega)).2.1
        subst hspot
        have h00 := (hfx 0 (by omega)).2.1
        refine .inr ⟨b, off, rfl, ?_, fun i hi => ?_⟩
        · have := World.block_lt_of_cell? W _ h00
          simpa [Addr.add] using this
        · have hi2 : i < len0 := by simpa using hi
          have := (hfx i hi2).2
          have e : dg ((List.range len0).map f) i = f i := by simp [dg, hi2]
          rw [e]
          rw [Go.WideShapes.add_plain, Go.WideShapes.add_plain] at this
          exact this
    · rcases Nat.lt_or_ge i len0 with hi | hi
      · have e : dg ((List.range len0).map f) i = f i := by simp [dg, hi]
        rw [e]; exact (hfx i hi).1
      · rw [getD_past _ _ (by simpa using hi)]; decide

/-- How many of the first k words have the class c. -/
def cntN (f : Int) (l : List Nat) : Nat → Nat → Nat
  | 0, _ => 0
  | k + 1, c => cntN f l k c + (if clsU f (dg l k) = c then 1 else 0)
theorem cntN_le (f : Int) (l : List Nat) (k c : Nat) : cntN f l k c ≤ k := by
  induction k with
  | zero => exact Nat.le_refl _
  | succ k ih => unfold cntN; split <;> omega

/-- Seven ints lie in a block. -/
def Lies7 (W : World) (b : Nat) (g : Nat → Nat) : Prop := (∀ i, i < 7 → W.cell? ⟨b, i, none⟩ = some (.int .i64 (g i : Nat))) ∧ b < W.heap.size ∧ ∀ i, W.frozen? ⟨b, i, none⟩ = false
theorem Lies7.under {W W' : World} {b : Nat} {g : Nat → Nat} (h : Lies7 W b g) {C : Nat} (hb : Below C W W') (hc : b < C) : Lies7 W' b g :=
  ⟨fun i hi => (hb.cell (p := ⟨b, i, none⟩) hc).trans (h.1 i hi), Nat.lt_of_lt_of_le h.2.1 hb.size, fun i => (hb.frozen (p := ⟨b, i, none⟩) hc).trans (h.2.2 i)⟩
theorem Lies7.below {W W' : World} {b : Nat} {g : Nat → Nat} (h : Lies7 W b g) (hb : Below W.heap.size W W') : Lies7 W' b g := h.under hb h.2.1
theorem lies7_new (w : World) (e : TypeId) : Lies7 (w.alloc (.cells #[.int .i64 0, .int .i64 0, .int .i64 0, .int .i64 0, .int .i64 0, .int .i64 0, .int .i64 0] e)) w.heap.size (fun _ => 0) := by
  refine ⟨fun i hi => ?_, by simp, fun i => by simp [go_sem]⟩
  match i, hi with
  | 0, _ => simp [go_sem]
  | 1, _ => simp [go_sem]
  | 2, _ => simp [go_sem]
  | 3, _ => simp [go_sem]
  | 4, _ => simp [go_sem]
  | 5, _ => simp [go_sem]
  | 6, _ => simp [go_sem]
  | n + 7, h => omega
theorem Lies7.set {W : World} {b : Nat} {g : Nat → Nat} (h : Lies7 W b g) (q : Nat) (hq : q < 7) (g' : Nat → Nat) (he : ∀ j, j ≠ q → g' j = g j) : Lies7 (W.setCell ⟨b, q, none⟩ (.int .i64 (g' q : Nat))) b g' := by
  refine ⟨fun i hi => ?_, by simpa [go_sem] using h.2.1, fun i => by simpa [go_sem] using h.2.2 i⟩
  have hc := h.1 q hq
  by_cases hiq : i = q
  · subst hiq
    simp [go_sem, hc]
  · have hci := h.1 i hi
    have hne : ¬ q = i := fun h => hiq h.symm
    rw [he i hiq]
    simpa [go_sem, hiq, hne] using hci

/-- What `==` says of two arrays of seven ints that are the same. -/
theorem ints7_same (f : Nat → Nat) (w : World) : (Op.equalIn 10000 45 (.agg #[.int .i64 (f 0 : Nat), .int .i64 (f 1 : Nat), .int .i64 (f 2 : Nat), .int .i64 (f 3 : Nat), .int .i64 (f 4 : Nat), .int .i64 (f 5 : Nat), .int .i64 (f 6 : Nat)]) (.agg #[.int .i64 (f 0 : Nat), .int .i64 (f 1 : Nat), .int .i64 (f 2 : Nat), .int .i64 (f 3 : Nat), .int .i64 (f 4 : Nat), .int .i64 (f 5 : Nat), .int .i64 (f 6 : Nat)])).run Tryd.prog w = .ok true w := by
  have u3 := Tryd.underlying3
  have a3 := Tryd.isAgg3
  obtain ⟨inf, hi⟩ : ∃ i, Tryd.prog.info? 3 = some i := Option.isSome_iff_exists.1 (by kernel_rfl)
  rw [show (10000 : Nat) = 9999 + 1 from rfl, run_equalIn_array w 9999 _ _ Tryd.underlying45 hi]
  have hc : Tryd.prog.cellsOf 3 = 1 := by kernel_rfl
  rw [hc]
  simp only [List.range_succ, List.range_zero, List.nil_append, List.cons_append, Op.eqItems]
  go_simp

structure CntSt (g : Nat → Nat) (w W : World) : Prop where
  fm : FmtG W
  l0 : Lies7 W w.heap.size (fun _ => 0)
  l1 : Lies7 W (w.heap.size + 1) g
  bel : Below w.heap.size w W
theorem CntSt.below {g : Nat → Nat} {w W W' : World} (h : CntSt g w W) (hb : Below W.heap.size W W') : CntSt g w W' :=
  ⟨h.fm.below hb, h.l0.below hb, h.l1.below hb, below_trans h.bel hb⟩
theorem cntSt_start (w : World) (hg : FmtG w) : CntSt (fun _ => 0) w ((w.alloc (.cells #[.int .i64 0, .int .i64 0, .int .i64 0, .int .i64 0, .int .i64 0, .int .i64 0, .int .i64 0] 45)).alloc (.cells #[.int .i64 0, .int .i64 0, .int .i64 0, .int .i64 0, .int .i64 0, .int .i64 0, .int .i64 0] 45)) := by
  have h1 := lies7_new (w.alloc (.cells #[.int .i64 0, .int .i64 0, .int .i64 0, .int .i64 0, .int .i64 0, .int .i64 0, .int .i64 0] 45)) 45
  rw [World.size_alloc] at h1
  exact ⟨(hg.below (below_allocs _ _)).below (below_allocs _ _), (lies7_new w 45).below (below_allocs _ _), h1, below_trans (below_allocs _ _) (below_allocs _ _)⟩
theorem CntSt.set {g g' : Nat → Nat} {w W : World} (h : CntSt g w W) (q : Nat) (hq : q < 7) (he : ∀ j, j ≠ q → g' j = g j) : CntSt g' w (W.setCell ⟨w.heap.size + 1, q, none⟩ (.int .i64 (g' q : Nat))) := by
  have hb := (Below.refl (w.heap.size + 1) W).setCell (p := ⟨w.heap.size + 1, q, none⟩) (Nat.le_refl _) (.int .i64 (g' q : Nat))
  exact ⟨⟨fun i hi => (hb.cell (p := ⟨0, i, none⟩) (Nat.zero_lt_succ _)).trans (h.fm.c i hi), Nat.lt_of_lt_of_le h.fm.lt hb.size⟩, h.l0.under hb (Nat.lt_succ_self _), h.l1.set q hq g' he, h.bel.trans (hb.mono (Nat.le_succ _))⟩

set_option maxHeartbeats 2000000 in
theorem ccount_any (f : Int) (l : List Nat) (v : Value) (w : World) (hr : RdD w v l) (hl : ∀ i, dg l i < 2 ^ 128) (hg : FmtG w) :
    Calls Tryd.prog 33 #[.int .i64 f, v] w fun e w' => e = .returned (.agg #[.int .i64 (cntN f l l.length 0 : Nat), .int .i64 (cntN f l l.length 1 : Nat), .int .i64 (cntN f l l.length 2 : Nat), .int .i64 (cntN f l l.length 3 : Nat), .int .i64 (cntN f l l.length 4 : Nat), .int .i64 (cntN f l l.length 5 : Nat), .int .i64 (cntN f l l.length 6 : Nat)]) ∧ Below w.heap.size w w' := by
  obtain ⟨ao, ca, rfl, hca, hma, hra⟩ := hr
  unfold maxLen at hma
  have HRA := hide hra
  have HL := hide hl
  clear hra hl
  have HS0 := hide (cntSt_start w hg)
  clear hg
  generalize hn : l.length = n at *
  have HN := hide hn
  clear hn
  go_enter Tryd.func33, Tryd.ntmps33
  go_wp2
  go_loopw [10] (fun i wr => ∃ k : Nat, k ≤ n ∧ i = .int .i64 k ∧ Hid (CntSt (cntN f l k) w wr))
    (fun i _ => n - (intOf i).toNat)
  case atStart => exact ⟨0, by omega, rfl, HS0.out⟩
  case round =>
    clear HS0
    obtain ⟨k, hk, rfl, hst⟩ := hrel
    by_cases hlt : k < n
    · have hj : (k : Int) < (n : Int) := by omega
      rcases unhide HRA with hc | ⟨b, off, rfl, hbl, hcell⟩
      · omega
      · have hck0 := (hst.out.bel.cell (p := ⟨b, off + k * 2, none⟩) hbl).trans (hcell k hlt).1
        have hck1 := (hst.out.bel.cell (p := ⟨b, off + k * 2 + 1, none⟩) hbl).trans (hcell k hlt).2
        have HX := hide (HL.out k)
        have HG : Hid (∀ c, cntN f l (k + 1) c = cntN f l k c + (if clsU f (dg l k) = c then 1 else 0)) := fun c => rfl
        have HLE : Hid (∀ c, cntN f l k c ≤ k) := fun c => cntN_le f l k c
        clear hcell
        generalize dg l k = x at *
        generalize cntN f l k = g at *
        go_upto_region 5 with fail
        refine wp_gen (fun W => CntSt g w W ∧ WB W wr.heap.size (dgl x 1) (dgl x 0)) ⟨hst.out.below (below_allocs _ _), by simp [go_sem], by simp [go_sem], by simp⟩ ?_
        rintro W5 ⟨h5, h5x⟩
        have hc0 := h5x.h
        have hc1 := h5x.l
        have HS5 := hide h5
        clear h5 h5x hck0 hck1 hst
        generalize wr.heap.size = p5 at *
        go_wp2_with fail
        refine (cof_u f x HX.out _ HS5.out.fm).mono ?_
        rintro e w6 ⟨rfl, hb6⟩
        replace HS5 := hide (HS5.out.below hb6)
        clear hb6 hc0 hc1
        have hcl := clsU_le f x
        generalize clsU f x = c at *
        have hc7 : (c : Int) < 7 := by omega
        have hcell := HS5.out.l1.1 c (by omega)
        have hfr := HS5.out.l1.2.2 c
        have hgc : (g c : Int) < 9223372036854775807 := by have := HLE.out c; omega
        have HNX : Hid (((cntN f l (k + 1) c : Nat) : Int) = (g c : Int) + 1) := by unfold Hid; rw [HG.out c, if_pos rfl]; rfl
        have HOT : Hid (∀ j, j ≠ c → cntN f l (k + 1) j = g j) := fun j hj => by rw [HG.out j, if_neg (fun h => hj h.symm)]; rfl
        go_wp2
        go_roundw
        case rel => exact ⟨k + 1, by omega, by go_num, by rw [← HNX.out]; exact HS5.out.set c (by omega) HOT.out⟩
        case measure => simp [intOf]; omega
    · have hk2 : k = n := by omega
      subst hk2
      have hcs := hst.out.l1.1
      have hr := hst.out.l0.1
      have hrf := hst.out.l0.2.2
      have hl := hst.out.l0.2.1
      have HB := hide hst.out.bel
      clear hst
      have hj : ¬ (k : Int) < (k : Int) := by omega
      go_wp2
      exact bodyPost_ret (v := .agg #[.int .i64 (cntN f l k 0 : Nat), .int .i64 (cntN f l k 1 : Nat), .int .i64 (cntN f l k 2 : Nat), .int .i64 (cntN f l k 3 : Nat), .int .i64 (cntN f l k 4 : Nat), .int .i64 (cntN f l k 5 : Nat), .int .i64 (cntN f l k 6 : Nat)]) (by simp [results, Tryd.results33, go_sem, hr, hl]) rfl ⟨rfl, (((((((HB.out.setCell (p := ⟨w.heap.size, 0, none⟩) (Nat.le_refl _) _).setCell (p := ⟨w.heap.size, 1, none⟩) (Nat.le_refl _) _).setCell (p := ⟨w.heap.size, 2, none⟩) (Nat.le_refl _) _).setCell (p := ⟨w.heap.size, 3, none⟩) (Nat.le_refl _) _).setCell (p := ⟨w.heap.size, 4, none⟩) (Nat.le_refl _) _).setCell (p := ⟨w.heap.size, 5, none⟩) (Nat.le_refl _) _).setCell (p := ⟨w.heap.size, 6, none⟩) (Nat.le_refl _) _)⟩

end Go.Proofs.YtidfegilddlglaaDoor

