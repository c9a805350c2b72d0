/- The walk over radicandlaw02.WideAdds. -/
import Derived.Test.YtenbomfoihajhaaWideK
import Derived.Deep.DeepCutAuto
set_option linter.unusedVariables false
set_option linter.unusedSimpArgs false
set_option maxRecDepth 8000
namespace Go.Proofs.Ytenbomfoihajhaa
open Go.RowKit Plain

/-- Eight limbs lie in a block of the world. -/
def LiesF (w : World) (b : Nat) (f : Nat → Nat) : Prop := (∀ i, i < 8 → w.cell? ⟨b, i, none⟩ = some (.int .u64 (f i : Nat))) ∧ b < w.heap.size
theorem LiesF.below {w w' : World} {b : Nat} {f : Nat → Nat} (h : LiesF w b f) (hb : Below w.heap.size w w') : LiesF w' b f :=
  ⟨fun i hi => (hb.cell (p := ⟨b, i, none⟩) h.2).trans (h.1 i hi), Nat.lt_of_lt_of_le h.2 hb.size⟩
theorem below_allocs (w : World) (o : Obj) : Below w.heap.size w (w.alloc o) := (Below.refl _ _).alloc (Nat.le_refl _) o
theorem LiesF.alloc {w : World} {b : Nat} {f : Nat → Nat} (h : LiesF w b f) (o : Obj) : LiesF (w.alloc o) b f := h.below (below_allocs w o)
theorem LiesF.drew {w : World} {b : Nat} {f : Nat → Nat} (h : LiesF w b f) : LiesF w.drew b f := h
theorem liesF_new (w : World) (f : Nat → Nat) (e : TypeId) : LiesF (w.alloc (.cells #[.int .u64 (f 0 : Nat), .int .u64 (f 1 : Nat), .int .u64 (f 2 : Nat), .int .u64 (f 3 : Nat), .int .u64 (f 4 : Nat), .int .u64 (f 5 : Nat), .int .u64 (f 6 : Nat), .int .u64 (f 7 : Nat)] e)) w.heap.size f := by
  refine ⟨fun i hi => ?_, by simp⟩
  match i, hi with
  | 0, _ => simp [go_sem]
  | 1, _ => simp [go_sem]
  | 2, _ => simp [go_sem]
  | 3, _ => simp [go_sem]
  | 4, _ => simp [go_sem]
  | 5, _ => simp [go_sem]
  | 6, _ => simp [go_sem]
  | 7, _ => simp [go_sem]

structure AddsSt (w0 : World) (fa fb : Nat → Nat) (a b : Nat) (x y : Value) (W : World) : Prop where
  la : LiesF W w0.heap.size fa
  lb : LiesF W (w0.heap.size + 1) fb
  x : BigV W x a 40
  y : BigV W y b 40
  bel : Below w0.heap.size w0 W
theorem AddsSt.below {w0 : World} {fa fb : Nat → Nat} {a b : Nat} {x y : Value} {W W' : World} (h : AddsSt w0 fa fb a b x y W) (hb : Below W.heap.size W W') : AddsSt w0 fa fb a b x y W' :=
  ⟨h.la.below hb, h.lb.below hb, h.x.below hb, h.y.below hb, below_trans h.bel hb⟩
theorem AddsSt.alloc {w0 : World} {fa fb : Nat → Nat} {a b : Nat} {x y : Value} {W : World} (h : AddsSt w0 fa fb a b x y W) (o : Obj) : AddsSt w0 fa fb a b x y (W.alloc o) := h.below (below_allocs W o)

theorem wide_sameF (f : Nat → Nat) (w : World) : (Op.equalIn 10000 24 (.agg #[.int .u64 (f 0 : Nat), .int .u64 (f 1 : Nat), .int .u64 (f 2 : Nat), .int .u64 (f 3 : Nat), .int .u64 (f 4 : Nat), .int .u64 (f 5 : Nat), .int .u64 (f 6 : Nat), .int .u64 (f 7 : Nat)]) (.agg #[.int .u64 (f 0 : Nat), .int .u64 (f 1 : Nat), .int .u64 (f 2 : Nat), .int .u64 (f 3 : Nat), .int .u64 (f 4 : Nat), .int .u64 (f 5 : Nat), .int .u64 (f 6 : Nat), .int .u64 (f 7 : Nat)])).run Try.prog w = .ok true w := by
  have := wide_equal f f w
  simpa using this

theorem back_digit (a b i : Nat) (hi : i < 8) (ha : a < QQ) (hb : b < QQ) : dgl (subQ a b + b) i = dgl a i := by
  have h := subW_eq (β := 18446744073709551616) (by decide) 8 a b
  rw [show b % 18446744073709551616 ^ 8 = b from Nat.mod_eq_of_lt hb, show a % 18446744073709551616 ^ 8 = a from Nat.mod_eq_of_lt ha] at h
  have e : subQ a b + b = a + 18446744073709551616 ^ 8 * bor 18446744073709551616 a b 8 := h
  have h1 := wide_end (Q := 18446744073709551616) (by decide) (subQ a b + b) 8 i hi
  have h2 := wide_end (Q := 18446744073709551616) (by decide) a 8 i hi
  unfold dgl
  rw [← h1, ← h2, e, Nat.add_mul_mod_self_left]

end Go.Proofs.Ytenbomfoihajhaa
