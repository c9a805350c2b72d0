/- Contracts: limb.Sum. -/
import Derived.Test.YtpeobjddpdffiaaLimbE
set_option linter.unusedVariables false
namespace Go.Proofs.Ytpeobjddpdffiaa
open Go.RowKit Plain

theorem app3 (x a b c : Value) : (#[x] ++ #[a, b, c] : Array Value) = #[x, a, b, c] := rfl

/-- What the closure of limb.Sum finds in its boxes behind k places. -/
structure SumInv (n m k B : Nat) (va vb : Value) (w wr : World) : Prop where
  a : wr.cell? ⟨B, 0, none⟩ = some va
  b : wr.cell? ⟨B + 1, 0, none⟩ = some vb
  c : wr.cell? ⟨B + 1 + 1, 0, none⟩ = some (.int .u64 (carry 18446744073709551616 n m k : Nat))
  f : wr.frozen? ⟨B + 1 + 1, 0, none⟩ = false
  bel : Below B w wr

theorem SumInv.below {n m k B : Nat} {va vb : Value} {w wr wr' : World} (h : SumInv n m k B va vb w wr) (hb : Below (B + 1 + 1 + 1) wr wr') : SumInv n m k B va vb w wr' :=
  ⟨(hb.cell (p := ⟨B, 0, none⟩) (show B < B + 1 + 1 + 1 by omega)).trans h.a, (hb.cell (p := ⟨B + 1, 0, none⟩) (show B + 1 < B + 1 + 1 + 1 by omega)).trans h.b,
   (hb.cell (p := ⟨B + 1 + 1, 0, none⟩) (show B + 1 + 1 < B + 1 + 1 + 1 by omega)).trans h.c, (hb.frozen (p := ⟨B + 1 + 1, 0, none⟩) (show B + 1 + 1 < B + 1 + 1 + 1 by omega)).trans h.f, h.bel.trans (hb.mono (by omega))⟩

theorem SumInv.step {n m k B : Nat} {va vb : Value} {w wr : World} (h : SumInv n m k B va vb w wr) (q : Nat) (hlt : B + 1 + 1 < wr.heap.size) :
    SumInv n m (k + 1) B va vb w ((wr.drewN q).setCell ⟨B + 1 + 1, 0, none⟩ (.int .u64 (carry 18446744073709551616 n m (k + 1) : Nat))) := by
  have hb : Below (B + 1 + 1) wr ((wr.drewN q).setCell ⟨B + 1 + 1, 0, none⟩ (.int .u64 (carry 18446744073709551616 n m (k + 1) : Nat))) := Below.setCell (p := ⟨B + 1 + 1, 0, none⟩) (below_drewN' (Below.refl (B + 1 + 1) wr) q) (Nat.le_refl _) _
  refine ⟨(hb.cell (p := ⟨B, 0, none⟩) (show B < B + 1 + 1 by omega)).trans h.a, (hb.cell (p := ⟨B + 1, 0, none⟩) (show B + 1 < B + 1 + 1 by omega)).trans h.b, ?_, ?_, h.bel.trans (hb.mono (by omega))⟩
  · have h1 : (wr.drewN q).cell? ⟨B + 1 + 1, 0, none⟩ = some (.int .u64 (carry 18446744073709551616 n m k : Nat)) := h.c
    exact World.cell?_setCell_same (wr.drewN q) ⟨B + 1 + 1, 0, none⟩ (.int .u64 (carry 18446744073709551616 n m (k + 1) : Nat)) h1
  · have h1 : (wr.drewN q).frozen? ⟨B + 1 + 1, 0, none⟩ = false := h.f
    simp [h1]

theorem SumInv.start (n m : Nat) (w : World) (va vb : Value) :
    SumInv n m 0 w.heap.size va vb w (((w.alloc (Obj.cells #[va] 33)).alloc (Obj.cells #[vb] 33)).alloc (Obj.cells #[Value.int IntKind.u64 0] 22)) := by
  refine ⟨?_, ?_, ?_, ?_, ?_⟩
  · simp [go_sem]
  · simp [go_sem]
  · rw [carry_zero]; simp [go_sem]
  · simp [go_sem]
  · exact Below.alloc (Below.alloc (Below.alloc (Below.refl _ _) (Nat.le_refl _) _) (by simp) _) (by simp; omega) _

set_option maxHeartbeats 1000000 in
theorem sum_any (n m : Nat) (la lb : List Nat) (va vb : Value) (w : World) (ha : Rd mk64 w va la) (hda : Dig 18446744073709551616 la n) (hb : Rd mk64 w vb lb) (hdb : Dig 18446744073709551616 lb m)
    (hK : la.length ≤ 100000) (hL : lb.length ≤ 100000) :
    Calls Try.prog 22 #[va, vb] w fun e w' => ∃ v l, e = .returned v ∧ Rd mk64 w' v l ∧ Dig 18446744073709551616 l (n + m) ∧ Norm 18446744073709551616 l (n + m) ∧ l.length ≤ max la.length lb.length + 1 ∧ Below w.heap.size w w' := by
  have ha' := ha
  have hb' := hb
  obtain ⟨ao, ca, rfl, hca, hma, -⟩ := ha'
  obtain ⟨bo, cb, rfl, hcb, hmb, -⟩ := hb'
  unfold maxLen at hma hmb
  have RA := hide ha
  have RB := hide hb
  have HA := hide hda
  have HB := hide hdb
  clear ha hb hda hdb
  go_enter Try.func22, Try.ntmps22
  go_wp2_with fail
  refine (list_any _ (max la.length lb.length + 1) (by omega) (by omega) 66 _ (fun k => dgl (n + m) k)
    (fun k wr => SumInv n m k w.heap.size (Value.slice ao la.length ca) (Value.slice bo lb.length cb) w wr) (some (w.heap.size + 1 + 1)) _ (enters_of Try.func66 (by kernel_rfl) rfl) (by intro c hc; simp at hc; subst hc; simp) ?_ ?_ ?_).mono ?_
  · intro i wr hi hI hsz
    rw [app3]
    obtain ⟨i1, i2, i3, i4, i5⟩ := hI
    refine (sum1_any n m i w.heap.size (w.heap.size + 1) (w.heap.size + 1 + 1) la lb _ _ wr (RA.out.below i5) HA.out (RB.out.below i5) HB.out i1 i2 i3 i4).mono ?_
    rintro e w' ⟨rfl, q, rfl⟩
    have hlt : w.heap.size + 1 + 1 < wr.heap.size := by simp at hsz; omega
    refine ⟨rfl, SumInv.step ⟨i1, i2, i3, i4, i5⟩ q hlt, ?_⟩
    exact ⟨rfl, rfl, rfl, by simp, fun k _ hk => Below.heap_setCell _ _ _ _ (fun e => hk (by rw [e]))⟩
  · intro i wr wr' hI hb
    exact hI.below (hb.mono (by simp))
  · exact SumInv.start n m w _ _
  · rintro e w' ⟨v, k, rfl, hk, hr, hz, hn, hg⟩
    have hdig := dl_dig 18446744073709551616 (n + m) (max la.length lb.length + 1) (add_fits (by decide) HA.out.1 HB.out.1 (by omega) (by omega)) (by decide)
    have el : (List.range (max la.length lb.length + 1)).map (fun k => dgl (n + m) k) = dl 18446744073709551616 (n + m) (max la.length lb.length + 1) := rfl
    rw [el] at hr
    have hl := dl_length 18446744073709551616 (n + m) (max la.length lb.length + 1)
    have hzz : ∀ j, k ≤ j → dg (dl 18446744073709551616 (n + m) (max la.length lb.length + 1)) j = 0 := by
      intro j hj
      rcases Nat.lt_or_ge j (max la.length lb.length + 1) with h | h
      · rw [hdig.2 j]; exact hz j hj h
      · exact getD_past _ _ (by rw [hl]; exact h)
    have hcut := hdig.cut (by decide) k (by rw [hl]; exact hk) hzz
    have hlk : ((dl 18446744073709551616 (n + m) (max la.length lb.length + 1)).take k).length = k := by rw [List.length_take, hl]; omega
    have hnorm := hcut.norm (by decide) (by
      rw [hlk]
      rcases hn with h | h
      · exact .inl h
      · by_cases h0 : k = 0
        · exact .inl h0
        · exact .inr (by rw [getD_take, if_pos (by omega), hdig.2]; exact h))
    have hbel : Below w.heap.size w w' := by
      refine Below.trans (Below.alloc (Below.alloc (Below.alloc (Below.refl _ _) (Nat.le_refl _) _) (by simp) _) (by simp; omega) _) (below_of_grownBy hg (by simp; omega) ?_)
      intro k hk
      simp at hk
      omega
    have hlen : ((dl 18446744073709551616 (n + m) (max la.length lb.length + 1)).take k).length ≤ max la.length lb.length + 1 := by rw [hlk]; exact hk
    have HF := hide (And.intro hr (And.intro hcut (And.intro hnorm (And.intro hlen hbel))))
    clear hlen hg hbel hnorm hcut hzz hl el hr hz hn hdig hlk
    go_wp2
    go_ret
    obtain ⟨f1, f2, f3, f4, f5⟩ := HF.out
    exact ⟨_, _, rfl, f1, f2, f3, f4, f5⟩

end Go.Proofs.Ytpeobjddpdffiaa
