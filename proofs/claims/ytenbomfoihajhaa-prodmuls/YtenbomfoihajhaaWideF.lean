/- Contracts: wide.Of, Power, Mask, Sar. -/
import Derived.Test.YtenbomfoihajhaaWideE
set_option linter.unusedVariables false
set_option linter.unusedSimpArgs false
set_option maxRecDepth 8000
namespace Go.Proofs.Ytenbomfoihajhaa
open Go.RowKit Plain

set_option maxHeartbeats 400000 in
theorem of1_any (A i : Nat) (l : List Nat) (v : Value) (w : World) (hr : Rd mk64 w v l) (cA : w.cell? ⟨A, 0, none⟩ = some v) (hi : i < 8) :
    Calls Try.prog 97 #[.int .i64 i, .pointer (some ⟨A, 0, none⟩)] w fun e w' => e = .returned (.int .u64 (dg l i : Nat)) ∧ w' = w := by
  obtain ⟨ao, cap, rfl, hc, hm, hr⟩ := hr
  unfold maxLen at hm
  by_cases h1 : i < l.length
  · rcases hr with hr | ⟨b, off, rfl, hlt, hcell⟩
    · omega
    · have hck : w.cell? ⟨b, off + i, none⟩ = some (.int .u64 (dg l i : Nat)) := hcell i h1
      clear hcell hc
      have hj : (i : Int) < (l.length : Int) := by omega
      go_enter Try.func97, Try.ntmps97
      go_wp2
      go_ret
      exact ⟨rfl, rfl⟩
  · have HO : Hid (dg l i = 0) := getD_past l i (by omega)
    clear hr
    go_enter Try.func97, Try.ntmps97
    go_wp2
    go_ret
    exact ⟨ret_int (by rw [HO.out]; rfl), rfl⟩

theorem app1 (x a : Value) : (#[x] ++ #[a] : Array Value) = #[x, a] := rfl

/-- What the closure of wide.Of finds in its box. -/
structure OfInv (B : Nat) (v : Value) (w wr : World) : Prop where
  a : wr.cell? ⟨B, 0, none⟩ = some v
  r : Lies wr (B + 1) 0
  rf : ∀ i, wr.frozen? ⟨B + 1, i, none⟩ = false
  bel : Below B w wr
theorem OfInv.below {B : Nat} {v : Value} {w wr wr' : World} (h : OfInv B v w wr) (hb : Below (B + 1 + 1) wr wr') : OfInv B v w wr' :=
  ⟨(hb.cell (p := ⟨B, 0, none⟩) (show B < B + 1 + 1 by omega)).trans h.a, h.r.below hb (by omega), fun i => (hb.frozen (p := ⟨B + 1, i, none⟩) (show B + 1 < B + 1 + 1 by omega)).trans (h.rf i), h.bel.trans (hb.mono (by omega))⟩
theorem OfInv.start (w : World) (v : Value) :
    OfInv w.heap.size v w ((w.alloc (Obj.cells #[v] 92)).alloc (Obj.cells #[.int .u64 0, .int .u64 0, .int .u64 0, .int .u64 0, .int .u64 0, .int .u64 0, .int .u64 0, .int .u64 0] 24)) := by
  have hR := lies_alloc0 (w.alloc (Obj.cells #[v] 92)) 24
  simp only [World.size_alloc] at hR
  exact ⟨by simp [go_sem], hR, fun i => by simp [go_sem], Below.alloc (Below.alloc (Below.refl _ _) (Nat.le_refl _) _) (by simp) _⟩

set_option maxHeartbeats 1000000 in
theorem wideOf_any (l : List Nat) (N : Nat) (v : Value) (w : World) (hr : Rd mk64 w v l) (hd : ∀ i, i < 8 → dg l i = dgl N i) :
    Calls Try.prog 71 #[v] w fun e w' => e = .returned (.agg #[.int .u64 (dgl (N) 0 : Nat), .int .u64 (dgl (N) 1 : Nat), .int .u64 (dgl (N) 2 : Nat), .int .u64 (dgl (N) 3 : Nat), .int .u64 (dgl (N) 4 : Nat), .int .u64 (dgl (N) 5 : Nat), .int .u64 (dgl (N) 6 : Nat), .int .u64 (dgl (N) 7 : Nat)]) ∧ Below w.heap.size w w' := by
  have hr' := hr
  obtain ⟨ao, ca, rfl, hca, hma, -⟩ := hr'
  have RA := hide hr
  have HD := hide hd
  clear hr hd
  go_enter Try.func71, Try.ntmps71
  go_wp2_with fail
  refine (each_any 97 _ (fun j => dg l j) (fun _ wr => OfInv w.heap.size (Value.slice ao l.length ca) w wr) none _ (enters_of Try.func97 (by kernel_rfl) rfl) (by intro c hc; cases hc) ?_ ?_ ?_).mono ?_
  · intro i wr hi hI hsz
    rw [app1]
    refine (of1_any w.heap.size i l _ wr (RA.out.below hI.bel) hI.a hi).mono ?_
    rintro e w' ⟨rfl, rfl⟩
    exact ⟨rfl, hI, grownBy_refl _ _⟩
  · intro i wr wr' hI hb
    exact hI.below (hb.mono (by simp))
  · exact OfInv.start w _
  · rintro e w1 ⟨rfl, hI, hg⟩
    have hsz := hg.size
    simp only [World.size_alloc] at hsz
    have hr := hI.r
    have hrf := hI.rf
    have HBL := hide hI.bel
    clear hg hI
    unfold Lies at hr
    have hl1 : w.heap.size + 1 < w1.heap.size := by omega
    have HW : Hid ((#[.int .u64 (dg l 0 : Nat), .int .u64 (dg l 1 : Nat), .int .u64 (dg l 2 : Nat), .int .u64 (dg l 3 : Nat), .int .u64 (dg l 4 : Nat), .int .u64 (dg l 5 : Nat), .int .u64 (dg l 6 : Nat), .int .u64 (dg l 7 : Nat)] : Array Value) = #[.int .u64 (dgl (N) 0 : Nat), .int .u64 (dgl (N) 1 : Nat), .int .u64 (dgl (N) 2 : Nat), .int .u64 (dgl (N) 3 : Nat), .int .u64 (dgl (N) 4 : Nat), .int .u64 (dgl (N) 5 : Nat), .int .u64 (dgl (N) 6 : Nat), .int .u64 (dgl (N) 7 : Nat)]) := w8_congr (x := dg l) (y := dgl N) HD.out
    rw [HW.out]
    go_wp2
    exact bodyPost_ret (v := .agg #[.int .u64 (dgl (N) 0 : Nat), .int .u64 (dgl (N) 1 : Nat), .int .u64 (dgl (N) 2 : Nat), .int .u64 (dgl (N) 3 : Nat), .int .u64 (dgl (N) 4 : Nat), .int .u64 (dgl (N) 5 : Nat), .int .u64 (dgl (N) 6 : Nat), .int .u64 (dgl (N) 7 : Nat)]) (by simp [results, Try.results71, go_sem, hr]) rfl ⟨rfl, below_set8 HBL.out _ (by omega) _ _ _ _ _ _ _ _⟩

/-- wide.Of(1). -/
theorem wideOf_one (w : World) (b : Nat) (hb : b = w.heap.size) :
    Calls Try.prog 71 #[.slice (some ⟨b, 0, none⟩) 1 1] (w.alloc (.cells #[.int .u64 1] 22)) fun e w' => e = .returned (.agg #[.int .u64 (dgl (1) 0 : Nat), .int .u64 (dgl (1) 1 : Nat), .int .u64 (dgl (1) 2 : Nat), .int .u64 (dgl (1) 3 : Nat), .int .u64 (dgl (1) 4 : Nat), .int .u64 (dgl (1) 5 : Nat), .int .u64 (dgl (1) 6 : Nat), .int .u64 (dgl (1) 7 : Nat)]) ∧ Below w.heap.size w w' := by
  subst hb
  have hr := Rd.lit (mk := mk64) w 22 [.int .u64 1] [1] rfl 1 (by decide) (by decide)
  refine (wideOf_any [1] 1 _ _ hr ?_).mono ?_
  · intro i hi
    have := (dig_one (β := 18446744073709551616) (a := 1) (by decide)).2 i
    exact this
  · rintro e w' ⟨rfl, h⟩
    exact ⟨rfl, below_alloc_then h⟩

end Go.Proofs.Ytenbomfoihajhaa
