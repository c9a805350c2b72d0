/- Contracts and laws: WideD. -/
import Derived.Test.YteocibahclpegaaPartAH
import Derived.Laws.EntriesVeiled
/- Contracts: wide.moved. -/
set_option linter.unusedVariables false
set_option linter.unusedSimpArgs false
set_option maxRecDepth 8000
namespace Go.Proofs.Yteocibahclpegaa
open Go.RowKit Plain

/-- n has a's limbs, and above them 'ab', as far as they are looked at. -/
def Ext (n a ab : Nat) : Prop := (∀ j, j < 8 → dgl n j = dgl a j) ∧ ∀ j, 8 ≤ j → j < 24 → dgl n j = ab

set_option maxHeartbeats 400000 in
theorem moved1_any (a ab n Pb Pa : Nat) (i : Int) (w : World) (hn : Ext n a ab) (cb : w.cell? ⟨Pb, 0, none⟩ = some (.int .u64 (ab : Nat))) (ca : Lies w Pa a) (hi : i < 24) :
    Calls Try.prog 109 #[.int .i64 i, .pointer (some ⟨Pb, 0, none⟩), .pointer (some ⟨Pa, 0, none⟩)] w fun e w' => e = .returned (.int .u64 (atI n i)) ∧ w' = w := by
  by_cases h0 : i < 0
  · have HV : Hid (atI n i = 0) := by unfold Hid atI; rw [if_pos h0]
    clear ca hn
    go_enter Try.func109, Try.ntmps109
    go_wp2
    go_ret
    exact ⟨ret_int HV.out.symm, rfl⟩
  · obtain ⟨k, rfl⟩ := Int.eq_ofNat_of_zero_le (Int.not_lt.1 h0)
    by_cases h8 : k < 8
    · have HV : Hid (atI n (k : Int) = (dgl a k : Nat)) := by unfold Hid atI; rw [if_neg h0, Int.toNat_natCast, hn.1 k h8]
      have c1 := ca k h8
      clear ca hn
      go_enter Try.func109, Try.ntmps109
      go_wp2
      go_ret
      exact ⟨ret_int HV.out.symm, rfl⟩
    · have HV : Hid (atI n (k : Int) = (ab : Nat)) := by unfold Hid atI; rw [if_neg h0, Int.toNat_natCast, hn.2 k (by omega) (by omega)]
      clear ca hn
      go_enter Try.func109, Try.ntmps109
      go_wp2
      go_ret
      exact ⟨ret_int HV.out.symm, rfl⟩

set_option maxHeartbeats 400000 in
theorem moved2_any (a ab n b Pb Pa F S Y : Nat) (i steps : Int) (w : World) (hn : Ext n a ab) (cb : w.cell? ⟨Pb, 0, none⟩ = some (.int .u64 (ab : Nat))) (ca : Lies w Pa a)
    (cF : w.cell? ⟨F, 0, none⟩ = some (.func (.func 109) #[] #[.pointer (some ⟨Pb, 0, none⟩), .pointer (some ⟨Pa, 0, none⟩)])) (cS : w.cell? ⟨S, 0, none⟩ = some (.int .i64 steps)) (cY : w.cell? ⟨Y, 0, none⟩ = some (.int .u64 (b : Nat))) (hb : b < 64)
    (hi0 : 0 ≤ i) (hi1 : i < 8) (hs0 : -9 ≤ steps) (hs1 : steps ≤ 9) :
    Calls Try.prog 110 #[.int .i64 i, .pointer (some ⟨F, 0, none⟩), .pointer (some ⟨S, 0, none⟩), .pointer (some ⟨Y, 0, none⟩)] w fun e w' =>
      e = .returned (.int .u64 (shd n b (i - steps) : Nat)) ∧ ∃ q, w' = w.drewN q := by
  have HCA := hide ca
  have HN := hide hn
  have HCB := hide cb
  clear ca hn cb
  have hw1 : IntKind.i64.wrap (i - steps) = i - steps := by rw [IntKind.wrap_i64]; omega
  have hw2 : IntKind.i64.wrap (i - steps - 1) = i - steps - 1 := by rw [IntKind.wrap_i64]; omega
  go_enter Try.func110, Try.ntmps110
  go_wp2
  refine wp_region_still_lit mixedOk (by kernel_rfl) ?_
  change wpStill _ _ w.drew _ _ _
  repeat still_step
  still_call (moved1_any a ab n Pb Pa _ _ HN.out HCB.out HCA.out (by omega))
  repeat still_step
  still_call (moved1_any a ab n Pb Pa _ _ HN.out HCB.out HCA.out (by omega))
  repeat still_step
  refine wpStill_nil ?_
  go_wp2
  go_ret
  exact ⟨ret_int (shift_val n b hb (i - steps)), 1, rfl⟩

/-- What the closures of wide.moved find in their boxes. -/
structure MovedInv (a ab b B : Nat) (s : Int) (w wr : World) : Prop where
  a : Lies wr B a
  ab : wr.cell? ⟨B + 1, 0, none⟩ = some (.int .u64 (ab : Nat))
  r : Lies wr (B + 1 + 1) 0
  rf : ∀ i, wr.frozen? ⟨B + 1 + 1, i, none⟩ = false
  fn : wr.cell? ⟨B + 1 + 1 + 1, 0, none⟩ = some (.func (.func 109) #[] #[.pointer (some ⟨B + 1, 0, none⟩), .pointer (some ⟨B, 0, none⟩)])
  s : wr.cell? ⟨B + 1 + 1 + 1 + 1, 0, none⟩ = some (.int .i64 s)
  y : wr.cell? ⟨B + 1 + 1 + 1 + 1 + 1, 0, none⟩ = some (.int .u64 (b : Nat))
  bel : Below B w wr

theorem MovedInv.below {a ab b B : Nat} {s : Int} {w wr wr' : World} (h : MovedInv a ab b B s w wr) (hb : Below (B + 1 + 1 + 1 + 1 + 1 + 1) wr wr') : MovedInv a ab b B s w wr' :=
  ⟨h.a.below hb (by omega), (hb.cell (p := ⟨B + 1, 0, none⟩) (show B + 1 < B + 1 + 1 + 1 + 1 + 1 + 1 by omega)).trans h.ab, h.r.below hb (by omega),
   fun i => (hb.frozen (p := ⟨B + 1 + 1, i, none⟩) (show B + 1 + 1 < B + 1 + 1 + 1 + 1 + 1 + 1 by omega)).trans (h.rf i),
   (hb.cell (p := ⟨B + 1 + 1 + 1, 0, none⟩) (show B + 1 + 1 + 1 < B + 1 + 1 + 1 + 1 + 1 + 1 by omega)).trans h.fn,
   (hb.cell (p := ⟨B + 1 + 1 + 1 + 1, 0, none⟩) (show B + 1 + 1 + 1 + 1 < B + 1 + 1 + 1 + 1 + 1 + 1 by omega)).trans h.s,
   (hb.cell (p := ⟨B + 1 + 1 + 1 + 1 + 1, 0, none⟩) (show B + 1 + 1 + 1 + 1 + 1 < B + 1 + 1 + 1 + 1 + 1 + 1 by omega)).trans h.y, h.bel.trans (hb.mono (by omega))⟩

theorem MovedInv.start (a ab b : Nat) (w : World) (s : Int) :
    MovedInv a ab b w.heap.size s w ((((((w.alloc (Obj.cells #[.int .u64 (dgl (a) 0 : Nat), .int .u64 (dgl (a) 1 : Nat), .int .u64 (dgl (a) 2 : Nat), .int .u64 (dgl (a) 3 : Nat), .int .u64 (dgl (a) 4 : Nat), .int .u64 (dgl (a) 5 : Nat), .int .u64 (dgl (a) 6 : Nat), .int .u64 (dgl (a) 7 : Nat)] 32)).alloc (Obj.cells #[.int .u64 (ab : Nat)] 24)).alloc (Obj.cells #[.int .u64 0, .int .u64 0, .int .u64 0, .int .u64 0, .int .u64 0, .int .u64 0, .int .u64 0, .int .u64 0] 32)).alloc
      (Obj.cells #[.func (.func 109) #[] #[.pointer (some ⟨w.heap.size + 1, 0, none⟩), .pointer (some ⟨w.heap.size, 0, none⟩)]] 108)).alloc (Obj.cells #[.int .i64 s] 3)).alloc (Obj.cells #[.int .u64 (b : Nat)] 34)) := by
  have hA := lies_alloc w a 32
  have hR := lies_alloc0 ((w.alloc (Obj.cells #[.int .u64 (dgl (a) 0 : Nat), .int .u64 (dgl (a) 1 : Nat), .int .u64 (dgl (a) 2 : Nat), .int .u64 (dgl (a) 3 : Nat), .int .u64 (dgl (a) 4 : Nat), .int .u64 (dgl (a) 5 : Nat), .int .u64 (dgl (a) 6 : Nat), .int .u64 (dgl (a) 7 : Nat)] 32)).alloc (Obj.cells #[.int .u64 (ab : Nat)] 24)) 32
  simp only [World.size_alloc] at hA hR
  refine ⟨((((hA.alloc (by simp only [World.size_alloc]; omega) _).alloc (by simp only [World.size_alloc]; omega) _).alloc (by simp only [World.size_alloc]; omega) _).alloc (by simp only [World.size_alloc]; omega) _).alloc (by simp only [World.size_alloc]; omega) _, by simp [go_sem], ((hR.alloc (by simp only [World.size_alloc]; omega) _).alloc (by simp only [World.size_alloc]; omega) _).alloc (by simp only [World.size_alloc]; omega) _, fun i => by simp [go_sem], by simp [go_sem], by simp [go_sem], by simp [go_sem], ?_⟩
  exact Below.alloc (Below.alloc (Below.alloc (Below.alloc (Below.alloc (Below.alloc (Below.refl _ _) (Nat.le_refl _) _) (by simp) _) (by simp; omega) _) (by simp; omega) _) (by simp; omega) _) (by simp; omega) _

set_option maxHeartbeats 1000000 in
theorem moved_any (a ab n : Nat) (k : Int) (w : World) (hn : Ext n a ab) (hk0 : -512 ≤ k) (hk1 : k ≤ 512) :
    Calls Try.prog 97 #[.agg #[.int .u64 (dgl (a) 0 : Nat), .int .u64 (dgl (a) 1 : Nat), .int .u64 (dgl (a) 2 : Nat), .int .u64 (dgl (a) 3 : Nat), .int .u64 (dgl (a) 4 : Nat), .int .u64 (dgl (a) 5 : Nat), .int .u64 (dgl (a) 6 : Nat), .int .u64 (dgl (a) 7 : Nat)], .int .i64 k, .int .u64 (ab : Nat)] w fun e w' => e = .returned (.agg #[.int .u64 (dgl (sh n k) 0 : Nat), .int .u64 (dgl (sh n k) 1 : Nat), .int .u64 (dgl (sh n k) 2 : Nat), .int .u64 (dgl (sh n k) 3 : Nat), .int .u64 (dgl (sh n k) 4 : Nat), .int .u64 (dgl (sh n k) 5 : Nat), .int .u64 (dgl (sh n k) 6 : Nat), .int .u64 (dgl (sh n k) 7 : Nat)]) ∧ Below w.heap.size w w' := by
  have HN := hide hn
  clear hn
  have e63 := and63 k
  have hkb : (k % 64).toNat < 64 := by omega
  obtain ⟨b, hb⟩ : ∃ b, b = (k % 64).toNat := ⟨_, rfl⟩
  rw [← hb] at e63 hkb
  have HB := hide hb
  clear hb
  go_enter Try.func97, Try.ntmps97
  go_wp2_with fail
  refine (each_any 110 _ (fun j => shd n b ((j : Int) - k / 64)) (fun _ wr => MovedInv a ab b w.heap.size (k / 64) w wr) none _ (enters_of Try.func110 (by kernel_rfl) rfl) (by intro c hc; cases hc) ?_ ?_ ?_).mono ?_
  · intro i wr hi hI hsz
    rw [app3]
    refine (moved2_any a ab n b (w.heap.size + 1) w.heap.size (w.heap.size + 1 + 1 + 1) (w.heap.size + 1 + 1 + 1 + 1) (w.heap.size + 1 + 1 + 1 + 1 + 1) (i : Int) (k / 64) wr HN.out hI.ab hI.a hI.fn hI.s hI.y hkb (by omega) (by omega) (by omega) (by omega)).mono ?_
    rintro e w' ⟨rfl, q, rfl⟩
    exact ⟨rfl, hI.below (below_drewN' (Below.refl _ _) q), grownBy_of_below (below_drewN' (Below.refl _ _) q) none⟩
  · intro i wr wr' hI hb
    exact hI.below (hb.mono (by simp))
  · exact MovedInv.start a ab b w (k / 64)
  · rintro e w1 ⟨rfl, hI, hg⟩
    have hsz := hg.size
    simp only [World.size_alloc] at hsz
    have hr := hI.r
    have hrf := hI.rf
    have HBL := hide hI.bel
    clear hg hI
    unfold Lies at hr
    have hl1 : w.heap.size + 1 + 1 < w1.heap.size := by omega
    have HD : Hid ((#[.int .u64 (shd n b (((0 : Nat) : Int) - k / 64) : Nat), .int .u64 (shd n b (((1 : Nat) : Int) - k / 64) : Nat), .int .u64 (shd n b (((2 : Nat) : Int) - k / 64) : Nat), .int .u64 (shd n b (((3 : Nat) : Int) - k / 64) : Nat), .int .u64 (shd n b (((4 : Nat) : Int) - k / 64) : Nat), .int .u64 (shd n b (((5 : Nat) : Int) - k / 64) : Nat), .int .u64 (shd n b (((6 : Nat) : Int) - k / 64) : Nat), .int .u64 (shd n b (((7 : Nat) : Int) - k / 64) : Nat)] : Array Value) = #[.int .u64 (dgl (sh n k) 0 : Nat), .int .u64 (dgl (sh n k) 1 : Nat), .int .u64 (dgl (sh n k) 2 : Nat), .int .u64 (dgl (sh n k) 3 : Nat), .int .u64 (dgl (sh n k) 4 : Nat), .int .u64 (dgl (sh n k) 5 : Nat), .int .u64 (dgl (sh n k) 6 : Nat), .int .u64 (dgl (sh n k) 7 : Nat)]) := w8_congr (x := fun j => shd n b ((j : Int) - k / 64)) (y := fun j => dgl (sh n k) j) (fun i _ => sh_digit n b k HB.out i)
    rw [HD.out]
    go_wp2
    exact bodyPost_ret (v := .agg #[.int .u64 (dgl (sh n k) 0 : Nat), .int .u64 (dgl (sh n k) 1 : Nat), .int .u64 (dgl (sh n k) 2 : Nat), .int .u64 (dgl (sh n k) 3 : Nat), .int .u64 (dgl (sh n k) 4 : Nat), .int .u64 (dgl (sh n k) 5 : Nat), .int .u64 (dgl (sh n k) 6 : Nat), .int .u64 (dgl (sh n k) 7 : Nat)]) (by simp [results, Try.results97, go_sem, hr]) rfl ⟨rfl, below_set8 HBL.out _ (by omega) _ _ _ _ _ _ _ _⟩

end Go.Proofs.Yteocibahclpegaa

