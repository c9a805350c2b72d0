/- Contracts: wide.chain. -/
import Derived.Test.YtenbomfoihajhaaWideA
set_option linter.unusedVariables false
set_option linter.unusedSimpArgs false
set_option maxRecDepth 8000
namespace Go.Proofs.Ytenbomfoihajhaa
open Go.RowKit Plain

/-- The block b holds the limbs of a. -/
def Lies (w : World) (b a : Nat) : Prop := ∀ i, i < 8 → w.cell? ⟨b, i, none⟩ = some (.int .u64 (dgl a i : Nat))
theorem Lies.below {w w' : World} {b a B : Nat} (h : Lies w b a) (hb : Below B w w') (hlt : b < B) : Lies w' b a :=
  fun i hi => (hb.cell (p := ⟨b, i, none⟩) hlt).trans (h i hi)

theorem dgl_zero (i : Nat) : dgl 0 i = 0 := by simp [dgl]

theorem lies_alloc (w : World) (a : Nat) (e : TypeId) : Lies (w.alloc (.cells #[.int .u64 (dgl (a) 0 : Nat), .int .u64 (dgl (a) 1 : Nat), .int .u64 (dgl (a) 2 : Nat), .int .u64 (dgl (a) 3 : Nat), .int .u64 (dgl (a) 4 : Nat), .int .u64 (dgl (a) 5 : Nat), .int .u64 (dgl (a) 6 : Nat), .int .u64 (dgl (a) 7 : Nat)] e)) w.heap.size a := by
  intro i hi
  rw [cell_of_row _ w.heap.size i #[.int .u64 (dgl (a) 0 : Nat), .int .u64 (dgl (a) 1 : Nat), .int .u64 (dgl (a) 2 : Nat), .int .u64 (dgl (a) 3 : Nat), .int .u64 (dgl (a) 4 : Nat), .int .u64 (dgl (a) 5 : Nat), .int .u64 (dgl (a) 6 : Nat), .int .u64 (dgl (a) 7 : Nat)] e (0, 0) (heap_alloc_new w _)]
  match i, hi with
  | 0, _ => rfl
  | 1, _ => rfl
  | 2, _ => rfl
  | 3, _ => rfl
  | 4, _ => rfl
  | 5, _ => rfl
  | 6, _ => rfl
  | 7, _ => rfl
theorem lies_alloc0 (w : World) (e : TypeId) : Lies (w.alloc (.cells #[.int .u64 0, .int .u64 0, .int .u64 0, .int .u64 0, .int .u64 0, .int .u64 0, .int .u64 0, .int .u64 0] e)) w.heap.size 0 := by
  have h := lies_alloc w 0 e
  simp only [dgl_zero] at h
  exact h
theorem Lies.alloc {w : World} {b a : Nat} (h : Lies w b a) (hlt : b < w.heap.size) (o : Obj) : Lies (w.alloc o) b a :=
  h.below ((Below.refl _ _).alloc (Nat.le_refl _) o) hlt

/-- The box of a result, behind a call that left what was there. -/
theorem res_box {X w1 : World} {e : TypeId} (hb : Below (X.alloc (.cells #[.int .u64 0, .int .u64 0, .int .u64 0, .int .u64 0, .int .u64 0, .int .u64 0, .int .u64 0, .int .u64 0] e)).heap.size (X.alloc (.cells #[.int .u64 0, .int .u64 0, .int .u64 0, .int .u64 0, .int .u64 0, .int .u64 0, .int .u64 0, .int .u64 0] e)) w1) :
    (∀ i, i < 8 → w1.cell? ⟨X.heap.size, i, none⟩ = some (.int .u64 (dgl 0 i : Nat))) ∧ (∀ i, w1.frozen? ⟨X.heap.size, i, none⟩ = false) ∧ X.heap.size < w1.heap.size := by
  have h1 := hb.size
  simp only [World.size_alloc] at h1
  refine ⟨(lies_alloc0 X e).below hb (by simp), fun i => ?_, by omega⟩
  rw [hb.frozen (p := ⟨X.heap.size, i, none⟩) (by simp)]
  simp [go_sem]

set_option maxHeartbeats 400000 in
theorem chain1_any (fid k D A B C a b c s c' : Nat) (w : World) (hent : ∀ args w, (callFunc fid args).run Try.prog w = .ok (.enter fid args) w)
    (hdo : ∀ w, Calls Try.prog fid #[.int .u64 (dgl a k : Nat), .int .u64 (dgl b k : Nat), .int .u64 (c : Nat)] w fun e w' => e = .returned (.tuple #[.int .u64 (s : Nat), .int .u64 (c' : Nat)]) ∧ w' = w)
    (hk : k < 8) (cD : w.cell? ⟨D, 0, none⟩ = some (.func (.func fid) #[] #[])) (cA : Lies w A a) (cB : Lies w B b)
    (cC : w.cell? ⟨C, 0, none⟩ = some (.int .u64 (c : Nat))) (fC : w.frozen? ⟨C, 0, none⟩ = false) :
    Calls Try.prog 100 #[.int .i64 k, .pointer (some ⟨D, 0, none⟩), .pointer (some ⟨A, 0, none⟩), .pointer (some ⟨B, 0, none⟩), .pointer (some ⟨C, 0, none⟩)] w fun e w' =>
      e = .returned (.int .u64 (s : Nat)) ∧ ∃ q, w' = (w.drewN q).setCell ⟨C, 0, none⟩ (.int .u64 (c' : Nat)) := by
  have c1 := cA k hk
  have c2 := cB k hk
  have hj : (k : Int) < 8 := by omega
  have HDO := hide hdo
  clear hdo cA cB
  go_enter Try.func100, Try.ntmps100
  go_wp2
  refine wp_region_still_tail 13 mixedOk (by kernel_rfl) ?_
  simp only [List.take_succ_cons, List.take_zero, List.drop_succ_cons, List.drop_zero]
  change wpStill _ _ w.drew _ _ _
  repeat still_step
  still_call (HDO.out _)
  repeat still_step
  refine wpStill_nil ?_
  go_wp2
  go_ret
  exact ⟨rfl, 1, rfl⟩

/-- What the closure of wide.chain finds in its boxes behind k places. -/
structure ChainInv (fid a b B : Nat) (g : Nat → Nat) (w : World) (k : Nat) (wr : World) : Prop where
  d : wr.cell? ⟨B, 0, none⟩ = some (.func (.func fid) #[] #[])
  a : Lies wr (B + 1) a
  b : Lies wr (B + 1 + 1) b
  c : wr.cell? ⟨B + 1 + 1 + 1 + 1, 0, none⟩ = some (.int .u64 (g k : Nat))
  f : wr.frozen? ⟨B + 1 + 1 + 1 + 1, 0, none⟩ = false
  r : Lies wr (B + 1 + 1 + 1) 0
  rf : ∀ i, wr.frozen? ⟨B + 1 + 1 + 1, i, none⟩ = false
  bel : Below B w wr

theorem ChainInv.below {fid a b B : Nat} {g : Nat → Nat} {w wr wr' : World} {k : Nat} (h : ChainInv fid a b B g w k wr) (hb : Below (B + 1 + 1 + 1 + 1 + 1) wr wr') : ChainInv fid a b B g w k wr' :=
  ⟨(hb.cell (p := ⟨B, 0, none⟩) (show B < B + 1 + 1 + 1 + 1 + 1 by omega)).trans h.d, h.a.below hb (by omega), h.b.below hb (by omega),
   (hb.cell (p := ⟨B + 1 + 1 + 1 + 1, 0, none⟩) (show B + 1 + 1 + 1 + 1 < B + 1 + 1 + 1 + 1 + 1 by omega)).trans h.c, (hb.frozen (p := ⟨B + 1 + 1 + 1 + 1, 0, none⟩) (show B + 1 + 1 + 1 + 1 < B + 1 + 1 + 1 + 1 + 1 by omega)).trans h.f,
   h.r.below hb (by omega), fun i => (hb.frozen (p := ⟨B + 1 + 1 + 1, i, none⟩) (show B + 1 + 1 + 1 < B + 1 + 1 + 1 + 1 + 1 by omega)).trans (h.rf i), h.bel.trans (hb.mono (by omega))⟩

theorem ChainInv.step {fid a b B : Nat} {g : Nat → Nat} {w wr : World} {k : Nat} (h : ChainInv fid a b B g w k wr) (q : Nat) :
    ChainInv fid a b B g w (k + 1) ((wr.drewN q).setCell ⟨B + 1 + 1 + 1 + 1, 0, none⟩ (.int .u64 (g (k + 1) : Nat))) := by
  have hb : Below (B + 1 + 1 + 1 + 1) wr ((wr.drewN q).setCell ⟨B + 1 + 1 + 1 + 1, 0, none⟩ (.int .u64 (g (k + 1) : Nat))) := Below.setCell (p := ⟨B + 1 + 1 + 1 + 1, 0, none⟩) (below_drewN' (Below.refl (B + 1 + 1 + 1 + 1) wr) q) (Nat.le_refl _) _
  refine ⟨(hb.cell (p := ⟨B, 0, none⟩) (show B < B + 1 + 1 + 1 + 1 by omega)).trans h.d, h.a.below hb (by omega), h.b.below hb (by omega), ?_, ?_, h.r.below hb (by omega), fun i => (hb.frozen (p := ⟨B + 1 + 1 + 1, i, none⟩) (show B + 1 + 1 + 1 < B + 1 + 1 + 1 + 1 by omega)).trans (h.rf i), h.bel.trans (hb.mono (by omega))⟩
  · have h1 : (wr.drewN q).cell? ⟨B + 1 + 1 + 1 + 1, 0, none⟩ = some (.int .u64 (g k : Nat)) := h.c
    exact World.cell?_setCell_same (wr.drewN q) ⟨B + 1 + 1 + 1 + 1, 0, none⟩ (.int .u64 (g (k + 1) : Nat)) h1
  · have h1 : (wr.drewN q).frozen? ⟨B + 1 + 1 + 1 + 1, 0, none⟩ = false := h.f
    simp [h1]

theorem app4 (x a b c d : Value) : (#[x] ++ #[a, b, c, d] : Array Value) = #[x, a, b, c, d] := rfl

theorem ChainInv.start (fid a b : Nat) (g : Nat → Nat) (w : World) (hg : g 0 = 0) :
    ChainInv fid a b w.heap.size g w 0 (((((w.alloc (Obj.cells #[Value.func (Fn.func fid) #[] #[]] 96)).alloc (Obj.cells #[.int .u64 (dgl (a) 0 : Nat), .int .u64 (dgl (a) 1 : Nat), .int .u64 (dgl (a) 2 : Nat), .int .u64 (dgl (a) 3 : Nat), .int .u64 (dgl (a) 4 : Nat), .int .u64 (dgl (a) 5 : Nat), .int .u64 (dgl (a) 6 : Nat), .int .u64 (dgl (a) 7 : Nat)] 24)).alloc (Obj.cells #[.int .u64 (dgl (b) 0 : Nat), .int .u64 (dgl (b) 1 : Nat), .int .u64 (dgl (b) 2 : Nat), .int .u64 (dgl (b) 3 : Nat), .int .u64 (dgl (b) 4 : Nat), .int .u64 (dgl (b) 5 : Nat), .int .u64 (dgl (b) 6 : Nat), .int .u64 (dgl (b) 7 : Nat)] 24)).alloc
      (Obj.cells #[.int .u64 0, .int .u64 0, .int .u64 0, .int .u64 0, .int .u64 0, .int .u64 0, .int .u64 0, .int .u64 0] 24)).alloc (Obj.cells #[Value.int IntKind.u64 0] 22)) := by
  have hA := lies_alloc (w.alloc (Obj.cells #[Value.func (Fn.func fid) #[] #[]] 96)) a 24
  have hB := lies_alloc ((w.alloc (Obj.cells #[Value.func (Fn.func fid) #[] #[]] 96)).alloc (Obj.cells #[.int .u64 (dgl (a) 0 : Nat), .int .u64 (dgl (a) 1 : Nat), .int .u64 (dgl (a) 2 : Nat), .int .u64 (dgl (a) 3 : Nat), .int .u64 (dgl (a) 4 : Nat), .int .u64 (dgl (a) 5 : Nat), .int .u64 (dgl (a) 6 : Nat), .int .u64 (dgl (a) 7 : Nat)] 24)) b 24
  have hR := lies_alloc0 (((w.alloc (Obj.cells #[Value.func (Fn.func fid) #[] #[]] 96)).alloc (Obj.cells #[.int .u64 (dgl (a) 0 : Nat), .int .u64 (dgl (a) 1 : Nat), .int .u64 (dgl (a) 2 : Nat), .int .u64 (dgl (a) 3 : Nat), .int .u64 (dgl (a) 4 : Nat), .int .u64 (dgl (a) 5 : Nat), .int .u64 (dgl (a) 6 : Nat), .int .u64 (dgl (a) 7 : Nat)] 24)).alloc (Obj.cells #[.int .u64 (dgl (b) 0 : Nat), .int .u64 (dgl (b) 1 : Nat), .int .u64 (dgl (b) 2 : Nat), .int .u64 (dgl (b) 3 : Nat), .int .u64 (dgl (b) 4 : Nat), .int .u64 (dgl (b) 5 : Nat), .int .u64 (dgl (b) 6 : Nat), .int .u64 (dgl (b) 7 : Nat)] 24)) 24
  simp only [World.size_alloc] at hA hB hR
  refine ⟨by simp [go_sem], ((hA.alloc (by simp) _).alloc (by simp) _).alloc (by simp) _, (hB.alloc (by simp) _).alloc (by simp) _, by rw [hg]; simp [go_sem], by simp [go_sem], hR.alloc (by simp) _, fun i => by simp [go_sem], ?_⟩
  exact Below.alloc (Below.alloc (Below.alloc (Below.alloc (Below.alloc (Below.refl _ _) (Nat.le_refl _) _) (by simp) _) (by simp; omega) _) (by simp; omega) _) (by simp; omega) _

set_option maxHeartbeats 1000000 in
theorem chain_any (fid a b : Nat) (f g : Nat → Nat) (w : World) (hent : ∀ args w, (callFunc fid args).run Try.prog w = .ok (.enter fid args) w)
    (hdo : ∀ i, i < 8 → ∀ w, Calls Try.prog fid #[.int .u64 (dgl a i : Nat), .int .u64 (dgl b i : Nat), .int .u64 (g i : Nat)] w fun e w' => e = .returned (.tuple #[.int .u64 (f i : Nat), .int .u64 (g (i + 1) : Nat)]) ∧ w' = w)
    (hg0 : g 0 = 0) :
    Calls Try.prog 75 #[.func (.func fid) #[] #[], .agg #[.int .u64 (dgl (a) 0 : Nat), .int .u64 (dgl (a) 1 : Nat), .int .u64 (dgl (a) 2 : Nat), .int .u64 (dgl (a) 3 : Nat), .int .u64 (dgl (a) 4 : Nat), .int .u64 (dgl (a) 5 : Nat), .int .u64 (dgl (a) 6 : Nat), .int .u64 (dgl (a) 7 : Nat)], .agg #[.int .u64 (dgl (b) 0 : Nat), .int .u64 (dgl (b) 1 : Nat), .int .u64 (dgl (b) 2 : Nat), .int .u64 (dgl (b) 3 : Nat), .int .u64 (dgl (b) 4 : Nat), .int .u64 (dgl (b) 5 : Nat), .int .u64 (dgl (b) 6 : Nat), .int .u64 (dgl (b) 7 : Nat)]] w fun e w' => e = .returned (.tuple #[.agg #[.int .u64 (f 0 : Nat), .int .u64 (f 1 : Nat), .int .u64 (f 2 : Nat), .int .u64 (f 3 : Nat), .int .u64 (f 4 : Nat), .int .u64 (f 5 : Nat), .int .u64 (f 6 : Nat), .int .u64 (f 7 : Nat)], .bool ((g 8 : Int) != 0)]) ∧ Below w.heap.size w w' := by
  have HDO := hide hdo
  have HG := hide hg0
  clear hdo hg0
  go_enter Try.func75, Try.ntmps75
  go_wp2_with fail
  refine (each_any 100 _ f (fun k wr => ChainInv fid a b w.heap.size g w k wr) (some (w.heap.size + 1 + 1 + 1 + 1)) _ (enters_of Try.func100 (by kernel_rfl) rfl) (by intro c hc; simp at hc; subst hc; simp) ?_ ?_ ?_).mono ?_
  · intro i wr hi hI hsz
    rw [app4]
    refine (chain1_any fid i w.heap.size (w.heap.size + 1) (w.heap.size + 1 + 1) (w.heap.size + 1 + 1 + 1 + 1) a b (g i) (f i) (g (i + 1)) wr hent (HDO.out i hi) hi hI.d hI.a hI.b hI.c hI.f).mono ?_
    rintro e w' ⟨rfl, q, rfl⟩
    refine ⟨rfl, hI.step q, ?_⟩
    exact ⟨rfl, rfl, rfl, by simp, fun k _ hk => Below.heap_setCell _ _ _ _ (fun e => hk (by rw [e]))⟩
  · intro i wr wr' hI hb
    exact hI.below (hb.mono (by simp))
  · exact ChainInv.start fid a b g w HG.out
  · rintro e w1 ⟨rfl, hI, hg⟩
    have hsz := hg.size
    simp only [World.size_alloc] at hsz
    have hr := hI.r
    have hrf := hI.rf
    have hc := hI.c
    have hbel := hI.bel
    have HB := hide hbel
    clear hg hI hbel
    unfold Lies at hr
    have hl1 : w.heap.size + 1 + 1 + 1 < w1.heap.size := by omega
    have hl2 : w.heap.size + 1 + 1 + 1 + 1 < w1.heap.size := by omega
    go_wp2
    go_region
    all_goals
      go_wp2
      refine bodyPost_ret (v := .tuple #[.agg #[.int .u64 (f 0 : Nat), .int .u64 (f 1 : Nat), .int .u64 (f 2 : Nat), .int .u64 (f 3 : Nat), .int .u64 (f 4 : Nat), .int .u64 (f 5 : Nat), .int .u64 (f 6 : Nat), .int .u64 (f 7 : Nat)], .bool ((g 8 : Int) != 0)]) (by simp [results, Try.results75, go_sem, hr, hl1]) rfl ⟨rfl, ?_⟩
      exact ((below_set8 HB.out (w.heap.size + 1 + 1 + 1) (by omega) _ _ _ _ _ _ _ _).alloc (by simp; omega) _).drew

end Go.Proofs.Ytenbomfoihajhaa
