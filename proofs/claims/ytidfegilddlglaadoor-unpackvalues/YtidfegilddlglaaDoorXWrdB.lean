/- Contracts and laws: WordB. -/
import Derived.Test.YtidfegilddlglaaDoorXClsO
import Derived.Test.YtidfegilddlglaaDoorBaseQ
/- Words that lie in a block. -/
set_option linter.unusedVariables false
set_option linter.unusedSimpArgs false
set_option maxRecDepth 8000
namespace Go.Proofs.YtidfegilddlglaaDoor
open Go.RowKit Plain

/-- A word that lies where the call has laid it, and the table of formats. -/
structure OwSt (a : Nat) (w W : World) : Prop where
  g : FmtG W
  h : W.cell? ⟨w.heap.size, 0, none⟩ = some (.int .u64 (dgl a 1 : Nat))
  l : W.cell? ⟨w.heap.size, 1, none⟩ = some (.int .u64 (dgl a 0 : Nat))
  lt : w.heap.size < W.heap.size
  bel : Below w.heap.size w W
theorem OwSt.below {a : Nat} {w W W' : World} (h : OwSt a w W) (hb : Below W.heap.size W W') : OwSt a w W' :=
  ⟨h.g.below hb, (hb.cell (p := ⟨w.heap.size, 0, none⟩) h.lt).trans h.h, (hb.cell (p := ⟨w.heap.size, 1, none⟩) h.lt).trans h.l, Nat.lt_of_lt_of_le h.lt hb.size, below_trans h.bel hb⟩
theorem owSt_start (a : Nat) (w : World) (hg : FmtG w) : OwSt a w (w.alloc (.cells #[.int .u64 (dgl (a) 1 : Nat), .int .u64 (dgl (a) 0 : Nat)] 24)) :=
  ⟨hg.below (below_allocs _ _), by simp [go_sem], by simp [go_sem], by simp, below_allocs _ _⟩

theorem clsN_ne {B P F a : Nat} (h : a < 2 ^ B) : clsN B P F a ≠ 0 := by
  unfold clsN clsP
  rw [if_pos h]
  split
  · split
    · decide
    · split <;> decide
  · split
    · split <;> decide
    · decide
theorem cls_zero (f : Int) (a : Nat) (h : clsU f a = 0) : fldU f a = 0 ∧ frcU f a = 0 ∧ absU f a = 0 ∧ flipU f a = 0 := by
  rcases f_cases f with rfl | rfl | rfl | rfl | h0
  · have hn : ¬ a < 2 ^ 16 := fun hn => clsN_ne (P := 11) (F := 5) hn h
    exact ⟨if_neg hn, if_neg hn, if_neg hn, if_neg hn⟩
  · have hn : ¬ a < 2 ^ 32 := fun hn => clsN_ne (P := 24) (F := 8) hn h
    exact ⟨if_neg hn, if_neg hn, if_neg hn, if_neg hn⟩
  · have hn : ¬ a < 2 ^ 64 := fun hn => clsN_ne (P := 53) (F := 11) hn h
    exact ⟨if_neg hn, if_neg hn, if_neg hn, if_neg hn⟩
  · have hn : ¬ a < 2 ^ 128 := fun hn => clsN_ne (P := 113) (F := 15) hn h
    exact ⟨if_neg hn, if_neg hn, if_neg hn, if_neg hn⟩
  · exact ⟨tU_none f h0 _ _ _ _ _, tU_none f h0 _ _ _ _ _, tU_none f h0 _ _ _ _ _, tU_none f h0 _ _ _ _ _⟩

theorem word_num (hi lo : Nat) (hh : hi < 18446744073709551616) (hl : lo < 18446744073709551616) : dgl (lo + 18446744073709551616 * hi) 1 = hi ∧ dgl (lo + 18446744073709551616 * hi) 0 = lo := by
  rw [dgl0, dgl1]
  omega

/-- A word that lies in a block. -/
structure WB (W : World) (p x y : Nat) : Prop where
  h : W.cell? ⟨p, 0, none⟩ = some (.int .u64 (x : Nat))
  l : W.cell? ⟨p, 1, none⟩ = some (.int .u64 (y : Nat))
  lt : p < W.heap.size
theorem WB.below {W W' : World} {p x y : Nat} (h : WB W p x y) (hb : Below W.heap.size W W') : WB W' p x y :=
  ⟨(hb.cell (p := ⟨p, 0, none⟩) h.lt).trans h.h, (hb.cell (p := ⟨p, 1, none⟩) h.lt).trans h.l, Nat.lt_of_lt_of_le h.lt hb.size⟩
def SlotIs.wbox (B x y : Nat) : SlotIs :=
  ⟨fun v w => ∃ b, v = .pointer (some ⟨b, 0, none⟩) ∧ B ≤ b ∧ WB w b x y ∧ ∀ i, w.frozen? ⟨b, i, none⟩ = false,
   fun v w w' hb ⟨b, h1, h2, h3, h4⟩ => ⟨b, h1, h2, h3.below hb, fun i => (hb.frozen (p := ⟨b, i, none⟩) h3.lt).trans (h4 i)⟩⟩
theorem wbox_other {B x y p : Nat} {v u t : Value} {W : World} (h : (SlotIs.wbox B x y).R v W) (hne : v ≠ .pointer (some ⟨p, 0, none⟩)) : (SlotIs.wbox B x y).R v ((W.setCell ⟨p, 0, none⟩ u).setCell ⟨p, 1, none⟩ t) := by
  obtain ⟨b, rfl, h2, h3, h4⟩ := h
  have hb : b ≠ p := fun e => hne (by rw [e])
  exact ⟨b, rfl, h2, ⟨by simpa [go_sem, hb] using h3.h, by simpa [go_sem, hb] using h3.l, by simpa [go_sem] using h3.lt⟩, fun i => by simpa [go_sem] using h4 i⟩
theorem wb_set {W : World} {p x y x2 y2 : Nat} (h : WB W p x y) : WB ((W.setCell ⟨p, 0, none⟩ (.int .u64 (x2 : Nat))).setCell ⟨p, 1, none⟩ (.int .u64 (y2 : Nat))) p x2 y2 := by
  have h1 := h.h
  have h2 := h.l
  have h3 := h.lt
  exact ⟨by simp [go_sem, h1, h2, h3], by simp [go_sem, h1, h2, h3], by simpa [go_sem] using h3⟩
theorem wb_new (w : World) (e : TypeId) : WB (w.alloc (.cells #[.int .u64 0, .int .u64 0] e)) w.heap.size 0 0 :=
  ⟨by simp [go_sem], by simp [go_sem], by simp⟩
theorem OwSt.under {a : Nat} {w W W' : World} (h : OwSt a w W) (hb : Below (w.heap.size + 1) W W') : OwSt a w W' :=
  ⟨⟨fun i hi => (hb.cell (p := ⟨0, i, none⟩) (Nat.zero_lt_succ _)).trans (h.g.c i hi), Nat.lt_of_lt_of_le h.g.lt hb.size⟩, (hb.cell (p := ⟨w.heap.size, 0, none⟩) (Nat.lt_succ_self _)).trans h.h, (hb.cell (p := ⟨w.heap.size, 1, none⟩) (Nat.lt_succ_self _)).trans h.l, Nat.lt_of_lt_of_le h.lt hb.size, h.bel.trans (hb.mono (Nat.le_succ _))⟩

end Go.Proofs.YtidfegilddlglaaDoor

