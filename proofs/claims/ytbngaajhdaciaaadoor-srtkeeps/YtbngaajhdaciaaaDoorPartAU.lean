/- Contracts and laws: FlyE, FlyI, FlyJ. -/
import Derived.Test.YtbngaajhdaciaaaDoorPartAR
import Derived.Test.YtbngaajhdaciaaaDoorPartAN
/- Contracts: slices.ContainsFunc at fly.Convert's closure; fly.Convert. -/
set_option linter.unusedVariables false
set_option linter.unusedSimpArgs false
set_option maxRecDepth 8000
namespace Go.Proofs.YtbngaajhdaciaaaDoor
open Go.RowKit Plain

/-- Are the first k numbers of a list digits? -/
def allD (l : List Nat) (k : Nat) : Prop := ∀ i, i < k → isD (zof (dg l i)) = true

set_option maxHeartbeats 1000000 in
theorem indexF_any (l : List Nat) (v : Value) (w : World) (hr : Rd mkZ w v l) (hn : l.length ≤ 1000) :
    Calls Tryd.prog 76 #[v, .func (.func 54) #[] #[]] w fun e w' => w' = w ∧ ∃ r : Int, e = .returned (.int .i64 r) ∧ ((r < 0 ∧ allD l l.length) ∨ (0 ≤ r ∧ ∃ i, i < l.length ∧ isD (zof (dg l i)) = false)) := by
  obtain ⟨ao, ca, rfl, hca, hma, hc⟩ := hr
  unfold maxLen at hma
  have HC := hide hc
  clear hc
  go_enter Tryd.func76, Tryd.ntmps76
  go_wp2
  go_loopw [8] (fun i wr => ∃ k : Nat, k ≤ l.length ∧ i = .int .i64 k ∧ Hid (allD l k) ∧ wr = w)
    (fun i _ => l.length - (intOf i).toNat)
  case atStart => exact ⟨0, by omega, rfl, fun i hi => absurd hi (by omega), rfl⟩
  case round =>
    obtain ⟨k, hk, rfl, HA, rfl⟩ := hrel
    by_cases hlt : k < l.length
    · rcases HC.out with hc | ⟨b, off, rfl, hbl, hcell⟩
      · omega
      · have hck := hcell k hlt
        unfold mkZ at hck
        have hi1 : (k : Int) < (l.length : Int) := by omega
        obtain ⟨z, hz⟩ : ∃ z, zof (dg l k) = z := ⟨_, rfl⟩
        have HZ := hide hz
        rw [hz] at hck
        clear hcell hz
        have HK := hide (fun w => kclo_any z w)
        go_wp2_with fail
        refine (HK.out _).mono ?_
        rintro e w' ⟨rfl, hw⟩
        subst hw
        rcases hd : isD z with _ | _
        · clear HK hck
          have HN : Hid (∃ i, i < l.length ∧ isD (zof (dg l i)) = false) := ⟨k, hlt, by rw [HZ.out]; exact hd⟩
          clear hd
          go_wp2
          go_ret
          exact ⟨rfl, _, rfl, .inr ⟨by omega, HN.out⟩⟩
        · clear HK hck
          have HN : Hid (allD l (k + 1)) := fun i hi => by
            rcases Nat.lt_or_ge i k with h | h
            · exact HA.out i h
            · have : i = k := by omega
              subst this
              rw [HZ.out]; exact hd
          clear hd HZ HA
          go_wp2
          go_roundw
          case rel => exact ⟨k + 1, by omega, by go_num, HN, by first | rfl | trivial⟩
          case measure => simp [intOf]; omega
    · have hk : k = l.length := by omega
      subst hk
      go_wp2
      go_ret
      exact ⟨rfl, _, rfl, .inl ⟨by omega, HA.out⟩⟩

theorem containsF_any (l : List Nat) (v : Value) (w : World) (hr : Rd mkZ w v l) (hn : l.length ≤ 1000) :
    Calls Tryd.prog 53 #[v, .func (.func 54) #[] #[]] w fun e w' => w' = w ∧ ∃ b : Bool, e = .returned (.bool b) ∧ ((b = false ∧ allD l l.length) ∨ (b = true ∧ ∃ i, i < l.length ∧ isD (zof (dg l i)) = false)) := by
  have HI := hide (indexF_any l v w hr hn)
  clear hr hn
  go_enter Tryd.func53, Tryd.ntmps53
  go_wp2_with fail
  refine HI.out.mono ?_
  rintro e w' ⟨hw, r, rfl, hh⟩
  subst hw
  have HH := hide hh
  clear hh HI
  go_wp2
  go_ret
  refine ⟨rfl, _, rfl, ?_⟩
  rcases HH.out with ⟨h1, h2⟩ | ⟨h1, h2⟩
  · exact .inl ⟨decide_eq_false (by omega), h2⟩
  · exact .inr ⟨decide_eq_true h1, h2⟩

/-- What Convert goes by: its result, and the state so far. -/
structure CvSt (p x y : Nat) (w W : World) : Prop where
  lr : LiesF W w.heap.size (fun _ => 0)
  fr : ∀ i, W.frozen? ⟨w.heap.size, i, none⟩ = false
  s : StB W p x y
  fs : ∀ i, W.frozen? ⟨p, i, none⟩ = false
  op : w.heap.size < p
  bel : Below w.heap.size w W
theorem CvSt.below {p x y : Nat} {w W W' : World} (h : CvSt p x y w W) (hb : Below W.heap.size W W') : CvSt p x y w W' :=
  ⟨h.lr.below hb, fun i => (hb.frozen (p := ⟨w.heap.size, i, none⟩) h.lr.2).trans (h.fr i), h.s.below hb, fun i => (hb.frozen (p := ⟨p, i, none⟩) h.s.lt).trans (h.fs i), h.op, below_trans h.bel hb⟩
theorem CvSt.set {p x y : Nat} {w W : World} (h : CvSt p x y w W) (a b : Nat) : CvSt p a b w ((((((((((((((((W.setCell ⟨p, 0, none⟩ (.int .u64 (dgl (a) 0 : Nat))).setCell ⟨p, 1, none⟩ (.int .u64 (dgl (a) 1 : Nat))).setCell ⟨p, 2, none⟩ (.int .u64 (dgl (a) 2 : Nat))).setCell ⟨p, 3, none⟩ (.int .u64 (dgl (a) 3 : Nat))).setCell ⟨p, 4, none⟩ (.int .u64 (dgl (a) 4 : Nat))).setCell ⟨p, 5, none⟩ (.int .u64 (dgl (a) 5 : Nat))).setCell ⟨p, 6, none⟩ (.int .u64 (dgl (a) 6 : Nat))).setCell ⟨p, 7, none⟩ (.int .u64 (dgl (a) 7 : Nat))).setCell ⟨p, 8, none⟩ (.int .u64 (dgl (b) 0 : Nat))).setCell ⟨p, 9, none⟩ (.int .u64 (dgl (b) 1 : Nat))).setCell ⟨p, 10, none⟩ (.int .u64 (dgl (b) 2 : Nat))).setCell ⟨p, 11, none⟩ (.int .u64 (dgl (b) 3 : Nat))).setCell ⟨p, 12, none⟩ (.int .u64 (dgl (b) 4 : Nat))).setCell ⟨p, 13, none⟩ (.int .u64 (dgl (b) 5 : Nat))).setCell ⟨p, 14, none⟩ (.int .u64 (dgl (b) 6 : Nat))).setCell ⟨p, 15, none⟩ (.int .u64 (dgl (b) 7 : Nat))) :=
  ⟨lies_box h.lr (below_set16 (Below.refl p W) p (Nat.le_refl _) a b) h.op, fun i => by simpa [go_sem] using h.fr i, stB_set16 h.s a b, fun i => by simpa [go_sem] using h.fs i, h.op, below_set16 h.bel _ (Nat.le_of_lt h.op) a b⟩

set_option maxHeartbeats 4000000 in
theorem convert_yes (l : List Nat) (v : Value) (w : World) (hr : Rd mkZ w v l) (hn : l.length ≤ 1000) (hd : allD l l.length) :
    Calls Tryd.prog 25 #[v] w fun e w' => e = .returned (.tuple #[.agg #[.int .u64 (dgl (qz (pZ l l.length)) 0 : Nat), .int .u64 (dgl (qz (pZ l l.length)) 1 : Nat), .int .u64 (dgl (qz (pZ l l.length)) 2 : Nat), .int .u64 (dgl (qz (pZ l l.length)) 3 : Nat), .int .u64 (dgl (qz (pZ l l.length)) 4 : Nat), .int .u64 (dgl (qz (pZ l l.length)) 5 : Nat), .int .u64 (dgl (qz (pZ l l.length)) 6 : Nat), .int .u64 (dgl (qz (pZ l l.length)) 7 : Nat)], .bool true]) ∧ Below w.heap.size w w' := by
  have HC := hide (containsF_any l v (w.alloc (.cells #[.int .u64 0, .int .u64 0, .int .u64 0, .int .u64 0, .int .u64 0, .int .u64 0, .int .u64 0, .int .u64 0] 24)) (hr.below (below_allocs _ _)) hn)
  have hl := liesF_new w (fun _ => 0) 24
  have HS : Hid (LiesF (w.alloc (.cells #[.int .u64 0, .int .u64 0, .int .u64 0, .int .u64 0, .int .u64 0, .int .u64 0, .int .u64 0, .int .u64 0] 24)) w.heap.size (fun _ => 0) ∧ (∀ i, (w.alloc (.cells #[.int .u64 0, .int .u64 0, .int .u64 0, .int .u64 0, .int .u64 0, .int .u64 0, .int .u64 0, .int .u64 0] 24)).frozen? ⟨w.heap.size, i, none⟩ = false) ∧ Below w.heap.size w (w.alloc (.cells #[.int .u64 0, .int .u64 0, .int .u64 0, .int .u64 0, .int .u64 0, .int .u64 0, .int .u64 0, .int .u64 0] 24))) := ⟨hl, fun i => by simp [go_sem], below_allocs _ _⟩
  have HNW : Hid (∀ w, Calls Tryd.prog 27 #[.agg #[.int .u64 0, .int .u64 0, .int .u64 0, .int .u64 0, .int .u64 0, .int .u64 0, .int .u64 0, .int .u64 0]] w fun e w' => e = .returned (.agg #[.int .u64 (dgl (qz (pZ l 0)) 0 : Nat), .int .u64 (dgl (qz (pZ l 0)) 1 : Nat), .int .u64 (dgl (qz (pZ l 0)) 2 : Nat), .int .u64 (dgl (qz (pZ l 0)) 3 : Nat), .int .u64 (dgl (qz (pZ l 0)) 4 : Nat), .int .u64 (dgl (qz (pZ l 0)) 5 : Nat), .int .u64 (dgl (qz (pZ l 0)) 6 : Nat), .int .u64 (dgl (qz (pZ l 0)) 7 : Nat), .int .u64 (dgl (qz (pZ l 0 - 1)) 0 : Nat), .int .u64 (dgl (qz (pZ l 0 - 1)) 1 : Nat), .int .u64 (dgl (qz (pZ l 0 - 1)) 2 : Nat), .int .u64 (dgl (qz (pZ l 0 - 1)) 3 : Nat), .int .u64 (dgl (qz (pZ l 0 - 1)) 4 : Nat), .int .u64 (dgl (qz (pZ l 0 - 1)) 5 : Nat), .int .u64 (dgl (qz (pZ l 0 - 1)) 6 : Nat), .int .u64 (dgl (qz (pZ l 0 - 1)) 7 : Nat)]) ∧ Below w.heap.size w w') := fun w => by
    have h := new_any 0 qq_pos w
    simp only [dgl_zero] at h
    have e : pZ l 0 = 0 := rfl
    rw [e, qz_zero]
    simp only [dgl_zero]
    exact h
  have HD := hide hd
  have HR := hide hr
  obtain ⟨ao, ca, rfl, hca, hma, hc⟩ := hr
  unfold maxLen at hma
  have HCE := hide hc
  clear hc hd hl
  go_enter Tryd.func25, Tryd.ntmps25
  go_wp2_with fail
  refine HC.out.mono ?_
  rintro e w' ⟨hw, b, rfl, hh⟩
  obtain rfl : b = false := by
    rcases hh with ⟨h, _⟩ | ⟨_, h⟩
    · exact h
    · obtain ⟨i, h1, h2⟩ := h
      rw [HD.out i h1] at h2
      cases h2
  subst hw
  clear hh HC
  go_upto_region 3 with fail
  refine wp_gen (fun W => LiesF W w.heap.size (fun _ => 0) ∧ (∀ i, W.frozen? ⟨w.heap.size, i, none⟩ = false) ∧ Below w.heap.size w W) HS.out ?_
  clear HS
  rintro W3 h3
  have HS := hide h3
  clear h3
  go_wp2_with fail
  refine (HNW.out _).mono ?_
  rintro e w4 ⟨rfl, hb4⟩
  have HS4 : Hid (LiesF w4 w.heap.size (fun _ => 0) ∧ (∀ i, w4.frozen? ⟨w.heap.size, i, none⟩ = false) ∧ Below w.heap.size w w4) := ⟨HS.out.1.below hb4, fun i => (hb4.frozen (p := ⟨w.heap.size, i, none⟩) HS.out.1.2).trans (HS.out.2.1 i), below_trans HS.out.2.2 hb4⟩
  clear HS hb4 HNW
  have HP0 : Hid (pZ l 0 = pZ l 0) := rfl
  go_upto_region 4 with fail
  have hbw := fun x y : Nat => below_allocs w4 (.cells #[.int .u64 (dgl (x) 0 : Nat), .int .u64 (dgl (x) 1 : Nat), .int .u64 (dgl (x) 2 : Nat), .int .u64 (dgl (x) 3 : Nat), .int .u64 (dgl (x) 4 : Nat), .int .u64 (dgl (x) 5 : Nat), .int .u64 (dgl (x) 6 : Nat), .int .u64 (dgl (x) 7 : Nat), .int .u64 (dgl (y) 0 : Nat), .int .u64 (dgl (y) 1 : Nat), .int .u64 (dgl (y) 2 : Nat), .int .u64 (dgl (y) 3 : Nat), .int .u64 (dgl (y) 4 : Nat), .int .u64 (dgl (y) 5 : Nat), .int .u64 (dgl (y) 6 : Nat), .int .u64 (dgl (y) 7 : Nat)] 60)
  refine wp_gen (fun W => CvSt w4.heap.size (qz (pZ l 0)) (qz (pZ l 0 - 1)) w W) ⟨HS4.out.1.below (hbw _ _), fun i => ((hbw _ _).frozen (p := ⟨w.heap.size, i, none⟩) HS4.out.1.2).trans (HS4.out.2.1 i), stB_new w4 _ _ _, fun i => by simp [go_sem], HS4.out.1.2, below_trans HS4.out.2.2 (hbw _ _)⟩ ?_
  clear HS4 hbw
  generalize w4.heap.size = p at *
  rintro W4 h4
  have HS := hide h4
  clear h4
  go_wp2
  go_loopw [14] (fun i wr => ∃ (k x y : Nat), k ≤ l.length ∧ i = .int .i64 k ∧ Hid (x = qz (pZ l k) ∧ y = qz (pZ l k - 1)) ∧ Hid (CvSt p x y w wr))
    (fun i _ => l.length - (intOf i).toNat)
  case atStart => exact ⟨0, _, _, by omega, rfl, ⟨rfl, rfl⟩, HS⟩
  case round =>
    clear HS
    obtain ⟨k, x, y, hk, rfl, HX, hst⟩ := hrel
    by_cases hlt : k < l.length
    · rcases HCE.out with hc | ⟨b, off, rfl, hbl, hcell⟩
      · omega
      · have hck : wr.cell? ⟨b, off + k, none⟩ = some (mkZ (dg l k)) := (hst.out.bel.cell (p := ⟨b, off + k, none⟩) hbl).trans (hcell k hlt)
        unfold mkZ at hck
        have hi1 : (k : Int) < (l.length : Int) := by omega
        have HNX : Hid (∀ w, Calls Tryd.prog 31 #[.agg #[.int .u64 (dgl (x) 0 : Nat), .int .u64 (dgl (x) 1 : Nat), .int .u64 (dgl (x) 2 : Nat), .int .u64 (dgl (x) 3 : Nat), .int .u64 (dgl (x) 4 : Nat), .int .u64 (dgl (x) 5 : Nat), .int .u64 (dgl (x) 6 : Nat), .int .u64 (dgl (x) 7 : Nat), .int .u64 (dgl (y) 0 : Nat), .int .u64 (dgl (y) 1 : Nat), .int .u64 (dgl (y) 2 : Nat), .int .u64 (dgl (y) 3 : Nat), .int .u64 (dgl (y) 4 : Nat), .int .u64 (dgl (y) 5 : Nat), .int .u64 (dgl (y) 6 : Nat), .int .u64 (dgl (y) 7 : Nat)], .int .i64 (zof (dg l k))] w fun e w' => e = .returned (.tuple #[.agg #[.int .u64 (dgl (qz (pZ l (k + 1))) 0 : Nat), .int .u64 (dgl (qz (pZ l (k + 1))) 1 : Nat), .int .u64 (dgl (qz (pZ l (k + 1))) 2 : Nat), .int .u64 (dgl (qz (pZ l (k + 1))) 3 : Nat), .int .u64 (dgl (qz (pZ l (k + 1))) 4 : Nat), .int .u64 (dgl (qz (pZ l (k + 1))) 5 : Nat), .int .u64 (dgl (qz (pZ l (k + 1))) 6 : Nat), .int .u64 (dgl (qz (pZ l (k + 1))) 7 : Nat), .int .u64 (dgl (qz (pZ l (k + 1) - 1)) 0 : Nat), .int .u64 (dgl (qz (pZ l (k + 1) - 1)) 1 : Nat), .int .u64 (dgl (qz (pZ l (k + 1) - 1)) 2 : Nat), .int .u64 (dgl (qz (pZ l (k + 1) - 1)) 3 : Nat), .int .u64 (dgl (qz (pZ l (k + 1) - 1)) 4 : Nat), .int .u64 (dgl (qz (pZ l (k + 1) - 1)) 5 : Nat), .int .u64 (dgl (qz (pZ l (k + 1) - 1)) 6 : Nat), .int .u64 (dgl (qz (pZ l (k + 1) - 1)) 7 : Nat)], .bool true]) ∧ Below w.heap.size w w') := fun w => by
          rw [HX.out.1, HX.out.2]
          exact next_yes (pZ l k) (zof (dg l k)) (HD.out k hlt) w
        obtain ⟨z, hz⟩ : ∃ z, zof (dg l k) = z := ⟨_, rfl⟩
        rw [hz] at hck HNX
        clear hcell hz HX
        obtain ⟨a, ha⟩ : ∃ a, qz (pZ l (k + 1)) = a := ⟨_, rfl⟩
        obtain ⟨c, hcc⟩ : ∃ c, qz (pZ l (k + 1) - 1) = c := ⟨_, rfl⟩
        have HX : Hid (a = qz (pZ l (k + 1)) ∧ c = qz (pZ l (k + 1) - 1)) := ⟨ha.symm, hcc.symm⟩
        rw [ha, hcc] at HNX
        clear ha hcc
        have hx := hst.out.s.lo
        have hx0 := hst.out.s.h0
        have hx1 := hst.out.s.h1
        have hx2 := hst.out.s.h2
        have hx3 := hst.out.s.h3
        have hx4 := hst.out.s.h4
        have hx5 := hst.out.s.h5
        have hx6 := hst.out.s.h6
        have hx7 := hst.out.s.h7
        go_wp2_with fail
        refine (HNX.out _).mono ?_
        rintro e w5 ⟨rfl, hb5⟩
        replace hst := hide (hst.out.below hb5)
        clear hb5 hck HNX hx hx0 hx1 hx2 hx3 hx4 hx5 hx6 hx7
        have hx := hst.out.s.lo
        have hx0 := hst.out.s.h0
        have hx1 := hst.out.s.h1
        have hx2 := hst.out.s.h2
        have hx3 := hst.out.s.h3
        have hx4 := hst.out.s.h4
        have hx5 := hst.out.s.h5
        have hx6 := hst.out.s.h6
        have hx7 := hst.out.s.h7
        have hxl := hst.out.s.lt
        have hxf := hst.out.fs
        go_wp2
        go_roundw
        case rel => exact ⟨k + 1, a, c, by omega, by go_num, HX, hst.out.set a c⟩
        case measure => simp [intOf]; omega
    · have hk : k = l.length := by omega
      subst hk
      obtain rfl : x = qz (pZ l l.length) := HX.out.1
      clear HX
      have hx := hst.out.s.lo
      have hxl := hst.out.s.lt
      have hr1 := hst.out.lr.1
      have hrl1 := hst.out.lr.2
      have hrf1 := hst.out.fr
      have HBE := hide hst.out.bel
      clear hst
      go_wp2
      exact bodyPost_ret (v := .tuple #[.agg #[.int .u64 (dgl (qz (pZ l l.length)) 0 : Nat), .int .u64 (dgl (qz (pZ l l.length)) 1 : Nat), .int .u64 (dgl (qz (pZ l l.length)) 2 : Nat), .int .u64 (dgl (qz (pZ l l.length)) 3 : Nat), .int .u64 (dgl (qz (pZ l l.length)) 4 : Nat), .int .u64 (dgl (qz (pZ l l.length)) 5 : Nat), .int .u64 (dgl (qz (pZ l l.length)) 6 : Nat), .int .u64 (dgl (qz (pZ l l.length)) 7 : Nat)], .bool true]) (by simp [results, Tryd.results25, go_sem, hr1, hrl1]) rfl ⟨rfl, below_set8 HBE.out _ (by omega) _ _ _ _ _ _ _ _⟩

end Go.Proofs.YtbngaajhdaciaaaDoor

/- Contracts: radicandref13.Sum. -/
set_option linter.unusedVariables false
set_option linter.unusedSimpArgs false
set_option maxRecDepth 8000
namespace Go.Proofs.YtbngaajhdaciaaaDoor
open Go.RowKit Plain

end Go.Proofs.YtbngaajhdaciaaaDoor

/- Contracts: radicandref13.Wide, Same. -/
set_option linter.unusedVariables false
set_option linter.unusedSimpArgs false
set_option maxRecDepth 8000
namespace Go.Proofs.YtbngaajhdaciaaaDoor
open Go.RowKit Plain

set_option maxHeartbeats 1000000 in
theorem same13_any (la lb : List Nat) (va vb : Value) (w : World) (ha : Rd mkZ w va la) (hb : Rd mkZ w vb lb) (hn : la.length ≤ 1000) (hl : lb.length = la.length) (he : ∀ i, i < la.length → dg la i = dg lb i) :
    Calls Tryd.prog 13 #[va, vb] w fun e w' => e = .returned (.bool true) ∧ Below w.heap.size w w' := by
  obtain ⟨ao, ca, rfl, hca, hma, ra⟩ := ha
  obtain ⟨bo, cb, rfl, hcb, hmb, rb⟩ := hb
  unfold maxLen at hma hmb
  rw [hl] at rb hcb ⊢
  have RA := hide ra
  have RB := hide rb
  have HE := hide he
  clear ra rb he hl
  go_enter Tryd.func13, Tryd.ntmps13
  go_wp2
  go_loopw [5] (fun i wr => ∃ (k q : Nat), k ≤ la.length ∧ i = .int .i64 k ∧ wr = w.drewN q)
    (fun i _ => la.length - (intOf i).toNat)
  case atStart => exact ⟨0, 0, by omega, rfl, rfl⟩
  case round =>
    obtain ⟨k, q, hk, rfl, rfl⟩ := hrel
    by_cases hlt : k < la.length
    · rcases RA.out with hc | ⟨b, off, rfl, hbl, hcell⟩
      · omega
      · rcases RB.out with hc2 | ⟨b2, off2, rfl, hbl2, hcell2⟩
        · omega
        · have c1 : w.cell? ⟨b, off + k, none⟩ = some (mkZ (dg la k)) := hcell k hlt
          have c2 : w.cell? ⟨b2, off2 + k, none⟩ = some (mkZ (dg lb k)) := hcell2 k hlt
          rw [← HE.out k hlt] at c2
          unfold mkZ at c1 c2
          have j1 : (k : Int) < (la.length : Int) := by omega
          clear hcell hcell2
          generalize zof (dg la k) = z at *
          have hq2 : (z != z) = false := by simp
          go_wp2
          go_quiet (fail)
          go_wp2
          go_roundw
          case rel => exact ⟨k + 1, _, by omega, by go_num, rfl⟩
          case measure => simp [intOf]; omega
    · go_wp2
      go_ret
      exact ⟨rfl, below_drewN' (Below.refl _ _) _⟩
end Go.Proofs.YtbngaajhdaciaaaDoor

