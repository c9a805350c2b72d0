/- Contracts: wide.each. -/
import Derived.Test.YtenbomfoihajhaaLimbI
import Derived.Test.YtenbomfoihajhaaLawB
set_option linter.unusedVariables false
set_option linter.unusedSimpArgs false
set_option maxRecDepth 8000
namespace Go.Proofs.Ytenbomfoihajhaa
open Go.RowKit Plain

theorem mk64_eq (n : Nat) : mk64 n = .int .u64 (n : Nat) := rfl

theorem below_set8 {B : Nat} {a w : World} (h : Below B a w) (b : Nat) (hb : B ≤ b) (x0 x1 x2 x3 x4 x5 x6 x7 : Value) :
    Below B a ((((((((w.setCell ⟨b, 0, none⟩ x0).setCell ⟨b, 1, none⟩ x1).setCell ⟨b, 2, none⟩ x2).setCell ⟨b, 3, none⟩ x3).setCell ⟨b, 4, none⟩ x4).setCell ⟨b, 5, none⟩ x5).setCell ⟨b, 6, none⟩ x6).setCell ⟨b, 7, none⟩ x7) :=
  (((((((h.setCell (p := ⟨b, 0, none⟩) hb _).setCell (p := ⟨b, 1, none⟩) hb _).setCell (p := ⟨b, 2, none⟩) hb _).setCell (p := ⟨b, 3, none⟩) hb _).setCell (p := ⟨b, 4, none⟩) hb _).setCell (p := ⟨b, 5, none⟩) hb _).setCell (p := ⟨b, 6, none⟩) hb _).setCell (p := ⟨b, 7, none⟩) hb _

/-- A world under a name, with what is known of it. -/
theorem wp_gen {P : Program} {c : Code} {Q : Exit → Act → World → Prop} {a : Act} {w : World} (F : World → Prop) (h : F w) (k : ∀ W, F W → Code.wp P c Q a W) : Code.wp P c Q a w := k w h

/-- A new variable of eight cells, filled. -/
theorem new8 (w : World) (e : TypeId) (x0 x1 x2 x3 x4 x5 x6 x7 y0 y1 y2 y3 y4 y5 y6 y7 : Value) (F : World → Prop)
    (h : ∀ W, (∀ i v, #[x0, x1, x2, x3, x4, x5, x6, x7][i]? = some v → W.cell? ⟨w.heap.size, i, none⟩ = some v) → (∀ i, W.frozen? ⟨w.heap.size, i, none⟩ = false) → Below w.heap.size w W → w.heap.size < W.heap.size → F W) :
    F (((((((((w.alloc (.cells #[y0, y1, y2, y3, y4, y5, y6, y7] e)).setCell ⟨w.heap.size, 0, none⟩ x0).setCell ⟨w.heap.size, 1, none⟩ x1).setCell ⟨w.heap.size, 2, none⟩ x2).setCell ⟨w.heap.size, 3, none⟩ x3).setCell ⟨w.heap.size, 4, none⟩ x4).setCell ⟨w.heap.size, 5, none⟩ x5).setCell ⟨w.heap.size, 6, none⟩ x6).setCell ⟨w.heap.size, 7, none⟩ x7) := by
  refine h _ ?_ ?_ (below_set8 ((Below.refl _ _).alloc (Nat.le_refl _) _) w.heap.size (Nat.le_refl _) x0 x1 x2 x3 x4 x5 x6 x7) (by simp)
  · intro i v hv
    match i, hv with
    | 0, hv => simp at hv; subst hv; simp [go_sem]
    | 1, hv => simp at hv; subst hv; simp [go_sem]
    | 2, hv => simp at hv; subst hv; simp [go_sem]
    | 3, hv => simp at hv; subst hv; simp [go_sem]
    | 4, hv => simp at hv; subst hv; simp [go_sem]
    | 5, hv => simp at hv; subst hv; simp [go_sem]
    | 6, hv => simp at hv; subst hv; simp [go_sem]
    | 7, hv => simp at hv; subst hv; simp [go_sem]
    | i + 8, hv => simp at hv
  · intro i
    simp [go_sem]

theorem wp_new8 {P : Program} {c : Code} {Q : Exit → Act → World → Prop} {a : Act} (w : World) (e : TypeId) {x0 x1 x2 x3 x4 x5 x6 x7 y0 y1 y2 y3 y4 y5 y6 y7 : Value}
    (h : ∀ W, (∀ i v, #[x0, x1, x2, x3, x4, x5, x6, x7][i]? = some v → W.cell? ⟨w.heap.size, i, none⟩ = some v) → (∀ i, W.frozen? ⟨w.heap.size, i, none⟩ = false) → Below w.heap.size w W → w.heap.size < W.heap.size → Code.wp P c Q a W) : Code.wp P c Q a (((((((((w.alloc (.cells #[y0, y1, y2, y3, y4, y5, y6, y7] e)).setCell ⟨w.heap.size, 0, none⟩ x0).setCell ⟨w.heap.size, 1, none⟩ x1).setCell ⟨w.heap.size, 2, none⟩ x2).setCell ⟨w.heap.size, 3, none⟩ x3).setCell ⟨w.heap.size, 4, none⟩ x4).setCell ⟨w.heap.size, 5, none⟩ x5).setCell ⟨w.heap.size, 6, none⟩ x6).setCell ⟨w.heap.size, 7, none⟩ x7) := new8 w e x0 x1 x2 x3 x4 x5 x6 x7 y0 y1 y2 y3 y4 y5 y6 y7 (fun W => Code.wp P c Q a W) h
theorem wpList_new8 {P : Program} {ops : Array Oper} {rest : List Oper} {Q : Exit → Act → World → Prop} {a : Act} (w : World) (e : TypeId) {x0 x1 x2 x3 x4 x5 x6 x7 y0 y1 y2 y3 y4 y5 y6 y7 : Value}
    (h : ∀ W, (∀ i v, #[x0, x1, x2, x3, x4, x5, x6, x7][i]? = some v → W.cell? ⟨w.heap.size, i, none⟩ = some v) → (∀ i, W.frozen? ⟨w.heap.size, i, none⟩ = false) → Below w.heap.size w W → w.heap.size < W.heap.size → wpList P ops Q rest a W) : wpList P ops Q rest a (((((((((w.alloc (.cells #[y0, y1, y2, y3, y4, y5, y6, y7] e)).setCell ⟨w.heap.size, 0, none⟩ x0).setCell ⟨w.heap.size, 1, none⟩ x1).setCell ⟨w.heap.size, 2, none⟩ x2).setCell ⟨w.heap.size, 3, none⟩ x3).setCell ⟨w.heap.size, 4, none⟩ x4).setCell ⟨w.heap.size, 5, none⟩ x5).setCell ⟨w.heap.size, 6, none⟩ x6).setCell ⟨w.heap.size, 7, none⟩ x7) := new8 w e x0 x1 x2 x3 x4 x5 x6 x7 y0 y1 y2 y3 y4 y5 y6 y7 (fun W => wpList P ops Q rest a W) h

set_option maxHeartbeats 1000000 in
theorem each_any (fid : Nat) (caps : Array Value) (f : Nat → Nat) (I : Nat → World → Prop) (row : Option Nat) (w : World)
    (hent : ∀ args w, (callFunc fid args).run Try.prog w = .ok (.enter fid args) w) (hrow : ∀ c, row = some c → c < w.heap.size)
    (hcall : ∀ i wr, i < 8 → I i wr → w.heap.size ≤ wr.heap.size → Calls Try.prog fid (#[.int .i64 i] ++ caps) wr fun e w' => e = .returned (.int .u64 (f i : Nat)) ∧ I (i + 1) w' ∧ wr.grownBy w' row)
    (hst : ∀ i wr wr', I i wr → Below w.heap.size wr wr' → I i wr') (h0 : I 0 w) :
    Calls Try.prog 95 #[.func (.func fid) #[] caps] w fun e w' => e = .returned (.agg #[.int .u64 (f 0 : Nat), .int .u64 (f 1 : Nat), .int .u64 (f 2 : Nat), .int .u64 (f 3 : Nat), .int .u64 (f 4 : Nat), .int .u64 (f 5 : Nat), .int .u64 (f 6 : Nat), .int .u64 (f 7 : Nat)]) ∧ I 8 w' ∧ w.grownBy w' row := by
  have HC := hide hcall
  have HS := hide hst
  have H0 := hide h0
  have HR := hide hrow
  clear hcall hst h0 hrow
  go_enter Try.func95, Try.ntmps95
  go_wp2
  go_loopw [5] (fun i wr => ∃ (k : Nat) (o : List Nat), k ≤ 8 ∧ i = .int .i64 k ∧ Hid (o.length = 8 ∧ ∀ j, j < k → dg o j = f j) ∧
      wr.ownsRow w.heap.size 24 1 (.slice (some ⟨w.heap.size + 1, 0, none⟩) 8 8) 8 (o.map mk64) ∧ wr.ownsRow w.heap.size 24 1 (.slice (some ⟨w.heap.size, 0, none⟩) 8 8) 8 ((List.replicate 8 0).map mk64) ∧ I k wr ∧ w.grownBy wr row)
    (fun i _ => 8 - (intOf i).toNat)
  case atStart =>
    have hb : Below w.heap.size w ((w.alloc (.cells #[.int .u64 0, .int .u64 0, .int .u64 0, .int .u64 0, .int .u64 0, .int .u64 0, .int .u64 0, .int .u64 0] 24)).alloc (.cells #[.int .u64 0, .int .u64 0, .int .u64 0, .int .u64 0, .int .u64 0, .int .u64 0, .int .u64 0, .int .u64 0] 24)) :=
      Below.alloc (Below.alloc (Below.refl _ _) (Nat.le_refl _) _) (by simp) _
    refine ⟨0, List.replicate 8 0, by omega, rfl, ⟨rfl, fun j hj => by omega⟩, ?_, ?_, unhide HS _ _ _ H0.out hb, grownBy_of_below hb row⟩
    · have := World.ownsRow_lit (base := w.heap.size) (e := 24) (size := 1) (w.alloc (.cells #[.int .u64 0, .int .u64 0, .int .u64 0, .int .u64 0, .int .u64 0, .int .u64 0, .int .u64 0, .int .u64 0] 24)) #[.int .u64 0, .int .u64 0, .int .u64 0, .int .u64 0, .int .u64 0, .int .u64 0, .int .u64 0, .int .u64 0] 8 (by simp) (by simp [maxLen]) rfl
      rw [World.size_alloc] at this
      exact this
    · exact (World.ownsRow_lit (base := w.heap.size) (e := 24) (size := 1) w #[.int .u64 0, .int .u64 0, .int .u64 0, .int .u64 0, .int .u64 0, .int .u64 0, .int .u64 0, .int .u64 0] 8 (Nat.le_refl _) (by simp [maxLen]) rfl).alloc _
  case round =>
    clear H0
    obtain ⟨k, o, hk, rfl, ho, hV, hR, hI, hgr⟩ := hrel
    by_cases hlt : k < 8
    · have hsz := hgr.size
      obtain ⟨ho1, ho2⟩ := ho.out
      have HO1 := hide ho1
      have HO2 := hide ho2
      clear ho ho1 ho2
      go_wp2_with fail
      refine (unhide HC k wr hlt hI hsz).mono ?_
      rintro e w1 ⟨rfl, hI1, hg1⟩
      have hne : ∀ x, w.heap.size ≤ x → (some x : Option Nat) ≠ row := by
        intro x hx he
        have := unhide HR _ he.symm
        omega
      have hV1 := hV.kept hg1 (.inr (hne _ (by simp)))
      have hR1 := hR.kept hg1 (.inr (hne _ (by simp)))
      have hgr1 := grownBy_trans hgr hg1
      clear hV hR hI hgr hg1 hne
      have hco : w1.cell? ⟨w.heap.size + 1, k, none⟩ = some (.int .u64 (dg o k : Nat)) := owns_cell hV1 HO1.out k hlt
      have hfo : w1.frozen? ⟨w.heap.size + 1, k, none⟩ = false := hV1.frozenAt _
      obtain ⟨hV2, hb2⟩ := owns_store (mk := mk64) hV1 k (f k) (Below.refl w.heap.size w1) (by omega)
      have hR2 := hR1.kept (hV1.stored k (mk64 (f k))).2 (.inr (by simp [Value.ownBlock]))
      have HI2 := hide (unhide HS _ _ _ hI1 hb2)
      have HG2 := hide (grownBy_then hgr1 (Nat.le_refl _) hb2)
      have HV2 := hide hV2
      have HR2 := hide hR2
      have HL2 := hide (show (o.set k (f k)).length = 8 from by rw [List.length_set]; exact HO1.out)
      have HD2 := hide (show ∀ j, j < k + 1 → dg (o.set k (f k)) j = f j from by
        intro j hj
        rw [dg_set _ _ _ _ (by rw [HO1.out]; exact hlt)]
        split
        · rename_i h; rw [h]
        · exact HO2.out j (by omega))
      clear hV1 hR1 hgr1 hV2 hR2 hb2 hI1
      have hj1 : (k : Int) < 8 := by omega
      go_wp2
      go_roundw
      case rel => exact ⟨k + 1, _, by omega, by go_num, ⟨HL2.out, HD2.out⟩, HV2.out, HR2.out, HI2.out, HG2.out⟩
      case measure => simp [intOf]; omega
    · have hk8 : k = 8 := by omega
      subst hk8
      obtain ⟨ho1, ho2⟩ := ho.out
      have hv : ∀ i, i < 8 → wr.cell? ⟨w.heap.size + 1, i, none⟩ = some (.int .u64 (f i : Nat)) := fun i hi => by rw [owns_cell hV ho1 i hi, ho2 i hi]; rfl
      have hr : ∀ i, i < 8 → wr.cell? ⟨w.heap.size, i, none⟩ = some (.int .u64 (dg (List.replicate 8 0) i : Nat)) := fun i hi => owns_cell hR (by simp) i hi
      have hfr : ∀ i, wr.frozen? ⟨w.heap.size, i, none⟩ = false := fun i => hR.frozenAt i
      clear ho ho1 ho2 hV hR
      have HI := hide hI
      have HG := hide hgr
      clear hI hgr
      go_wp2
      have hb8 := below_set8 (Below.refl w.heap.size wr) w.heap.size (Nat.le_refl _) (.int .u64 (f 0 : Nat)) (.int .u64 (f 1 : Nat)) (.int .u64 (f 2 : Nat)) (.int .u64 (f 3 : Nat)) (.int .u64 (f 4 : Nat)) (.int .u64 (f 5 : Nat)) (.int .u64 (f 6 : Nat)) (.int .u64 (f 7 : Nat))
      exact bodyPost_ret (v := .agg #[.int .u64 (f 0 : Nat), .int .u64 (f 1 : Nat), .int .u64 (f 2 : Nat), .int .u64 (f 3 : Nat), .int .u64 (f 4 : Nat), .int .u64 (f 5 : Nat), .int .u64 (f 6 : Nat), .int .u64 (f 7 : Nat)]) (by simp [results, Try.results95, go_sem, hr]) rfl ⟨rfl, unhide HS _ _ _ HI.out hb8, grownBy_then HG.out (Nat.le_refl _) hb8⟩

end Go.Proofs.Ytenbomfoihajhaa
