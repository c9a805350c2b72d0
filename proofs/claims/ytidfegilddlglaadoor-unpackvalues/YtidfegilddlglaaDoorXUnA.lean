/- Contracts and laws: UnpA. -/
import Derived.Test.YtidfegilddlglaaDoorXWrdB
import Derived.Test.YtidfegilddlglaaDoorXClsS
/- Contracts: unpack.Right, lowest; the document's Right; numbers that lie in a block; == on numbers. -/
set_option linter.unusedVariables false
set_option linter.unusedSimpArgs false
set_option maxRecDepth 8000
namespace Go.Proofs.YtidfegilddlglaaDoor
open Go.RowKit Plain

/-- A number lies in a block. -/
structure NB (W : World) (p : Nat) (neg : Bool) (z : Int) (s : Nat) : Prop where
  n : W.cell? ⟨p, 0, none⟩ = some (.bool neg)
  e : W.cell? ⟨p, 1, none⟩ = some (.int .i64 z)
  x0 : W.cell? ⟨p, 2, none⟩ = some (.int .u64 (dgl s 0 : Nat))
  x1 : W.cell? ⟨p, 3, none⟩ = some (.int .u64 (dgl s 1 : Nat))
  x2 : W.cell? ⟨p, 4, none⟩ = some (.int .u64 (dgl s 2 : Nat))
  x3 : W.cell? ⟨p, 5, none⟩ = some (.int .u64 (dgl s 3 : Nat))
  x4 : W.cell? ⟨p, 6, none⟩ = some (.int .u64 (dgl s 4 : Nat))
  x5 : W.cell? ⟨p, 7, none⟩ = some (.int .u64 (dgl s 5 : Nat))
  x6 : W.cell? ⟨p, 8, none⟩ = some (.int .u64 (dgl s 6 : Nat))
  x7 : W.cell? ⟨p, 9, none⟩ = some (.int .u64 (dgl s 7 : Nat))
  lt : p < W.heap.size
theorem NB.under {W W' : World} {p : Nat} {neg : Bool} {z : Int} {s : Nat} (h : NB W p neg z s) {C : Nat} (hb : Below C W W') (hc : p < C) : NB W' p neg z s :=
  ⟨(hb.cell (p := ⟨p, 0, none⟩) hc).trans h.n, (hb.cell (p := ⟨p, 1, none⟩) hc).trans h.e, (hb.cell (p := ⟨p, 2, none⟩) hc).trans h.x0, (hb.cell (p := ⟨p, 3, none⟩) hc).trans h.x1, (hb.cell (p := ⟨p, 4, none⟩) hc).trans h.x2, (hb.cell (p := ⟨p, 5, none⟩) hc).trans h.x3, (hb.cell (p := ⟨p, 6, none⟩) hc).trans h.x4, (hb.cell (p := ⟨p, 7, none⟩) hc).trans h.x5, (hb.cell (p := ⟨p, 8, none⟩) hc).trans h.x6, (hb.cell (p := ⟨p, 9, none⟩) hc).trans h.x7, Nat.lt_of_lt_of_le h.lt hb.size⟩
theorem NB.below {W W' : World} {p : Nat} {neg : Bool} {z : Int} {s : Nat} (h : NB W p neg z s) (hb : Below W.heap.size W W') : NB W' p neg z s := h.under hb h.lt
theorem nb_new (w : World) (neg : Bool) (z : Int) (s : Nat) (e : TypeId) : NB (w.alloc (.cells #[.bool (neg), .int .i64 (z), .int .u64 (dgl (s) 0 : Nat), .int .u64 (dgl (s) 1 : Nat), .int .u64 (dgl (s) 2 : Nat), .int .u64 (dgl (s) 3 : Nat), .int .u64 (dgl (s) 4 : Nat), .int .u64 (dgl (s) 5 : Nat), .int .u64 (dgl (s) 6 : Nat), .int .u64 (dgl (s) 7 : Nat)] e)) w.heap.size neg z s :=
  ⟨by simp [go_sem], by simp [go_sem], by simp [go_sem], by simp [go_sem], by simp [go_sem], by simp [go_sem], by simp [go_sem], by simp [go_sem], by simp [go_sem], by simp [go_sem], by simp⟩
theorem nb_zero (w : World) (e : TypeId) : NB (w.alloc (.cells #[.bool false, .int .i64 0, .int .u64 0, .int .u64 0, .int .u64 0, .int .u64 0, .int .u64 0, .int .u64 0, .int .u64 0, .int .u64 0] e)) w.heap.size false 0 0 :=
  ⟨by simp [go_sem, dgl_zero], by simp [go_sem, dgl_zero], by simp [go_sem, dgl_zero], by simp [go_sem, dgl_zero], by simp [go_sem, dgl_zero], by simp [go_sem, dgl_zero], by simp [go_sem, dgl_zero], by simp [go_sem, dgl_zero], by simp [go_sem, dgl_zero], by simp [go_sem, dgl_zero], by simp⟩

/-- What `==` says of two Wides, with any purse. -/
theorem wide_equalN (n : Nat) (f g : Nat → Nat) (w : World) :
    (Op.equalIn (n + 2) 28 (.agg #[.int .u64 (f 0 : Nat), .int .u64 (f 1 : Nat), .int .u64 (f 2 : Nat), .int .u64 (f 3 : Nat), .int .u64 (f 4 : Nat), .int .u64 (f 5 : Nat), .int .u64 (f 6 : Nat), .int .u64 (f 7 : Nat)]) (.agg #[.int .u64 (g 0 : Nat), .int .u64 (g 1 : Nat), .int .u64 (g 2 : Nat), .int .u64 (g 3 : Nat), .int .u64 (g 4 : Nat), .int .u64 (g 5 : Nat), .int .u64 (g 6 : Nat), .int .u64 (g 7 : Nat)])).run Tryd.prog w
      = .ok (f 0 == g 0 && (f 1 == g 1 && (f 2 == g 2 && (f 3 == g 3 && (f 4 == g 4 && (f 5 == g 5 && (f 6 == g 6 && f 7 == g 7))))))) w := by
  have u3 := Tryd.underlying22
  have a3 := Tryd.isAgg22
  obtain ⟨inf, hi⟩ : ∃ i, Tryd.prog.info? 22 = some i := Option.isSome_iff_exists.1 (by kernel_rfl)
  rw [show n + 2 = (n + 1) + 1 from rfl, run_equalIn_array w (n + 1) _ _ Tryd.underlying28 hi]
  have hc : Tryd.prog.cellsOf 22 = 1 := by kernel_rfl
  rw [hc]
  simp only [List.range_succ, List.range_zero, List.nil_append, List.cons_append, Op.eqItems]
  go_simp
  simp only [Int.ofNat_inj]
  by_cases h0 : f 0 = g 0
  · by_cases h1 : f 1 = g 1
    · by_cases h2 : f 2 = g 2
      · by_cases h3 : f 3 = g 3
        · by_cases h4 : f 4 = g 4
          · by_cases h5 : f 5 = g 5
            · by_cases h6 : f 6 = g 6
              · by_cases h7 : f 7 = g 7 <;> simp [h0, h1, h2, h3, h4, h5, h6, h7]
              · simp [h0, h1, h2, h3, h4, h5, h6]
            · simp [h0, h1, h2, h3, h4, h5]
          · simp [h0, h1, h2, h3, h4]
        · simp [h0, h1, h2, h3]
      · simp [h0, h1, h2]
    · simp [h0, h1]
  · simp [h0]
theorem wide_eqN (n : Nat) {a b : Nat} (ha : a < QQ) (hb : b < QQ) (w : World) : (Op.equalIn (n + 2) 28 (.agg #[.int .u64 (dgl (a) 0 : Nat), .int .u64 (dgl (a) 1 : Nat), .int .u64 (dgl (a) 2 : Nat), .int .u64 (dgl (a) 3 : Nat), .int .u64 (dgl (a) 4 : Nat), .int .u64 (dgl (a) 5 : Nat), .int .u64 (dgl (a) 6 : Nat), .int .u64 (dgl (a) 7 : Nat)]) (.agg #[.int .u64 (dgl (b) 0 : Nat), .int .u64 (dgl (b) 1 : Nat), .int .u64 (dgl (b) 2 : Nat), .int .u64 (dgl (b) 3 : Nat), .int .u64 (dgl (b) 4 : Nat), .int .u64 (dgl (b) 5 : Nat), .int .u64 (dgl (b) 6 : Nat), .int .u64 (dgl (b) 7 : Nat)])).run Tryd.prog w = .ok (decide (a = b)) w := by
  have h1 := wide_equalN n (dgl a) (dgl b) w
  have h2 := wide_equal (dgl a) (dgl b) w
  have h3 := wide_eqb ha hb w
  rw [h2] at h3
  rw [h1]
  injection h3 with h4 _
  rw [h4]
theorem num_eq (n1 n2 : Bool) (z1 z2 : Int) {a b : Nat} (ha : a < QQ) (hb : b < QQ) (w : World) :
    (Op.equalIn 10000 49 (.agg #[.bool (n1), .int .i64 (z1), .int .u64 (dgl (a) 0 : Nat), .int .u64 (dgl (a) 1 : Nat), .int .u64 (dgl (a) 2 : Nat), .int .u64 (dgl (a) 3 : Nat), .int .u64 (dgl (a) 4 : Nat), .int .u64 (dgl (a) 5 : Nat), .int .u64 (dgl (a) 6 : Nat), .int .u64 (dgl (a) 7 : Nat)]) (.agg #[.bool (n2), .int .i64 (z2), .int .u64 (dgl (b) 0 : Nat), .int .u64 (dgl (b) 1 : Nat), .int .u64 (dgl (b) 2 : Nat), .int .u64 (dgl (b) 3 : Nat), .int .u64 (dgl (b) 4 : Nat), .int .u64 (dgl (b) 5 : Nat), .int .u64 (dgl (b) 6 : Nat), .int .u64 (dgl (b) 7 : Nat)])).run Tryd.prog w = .ok (n1 == n2 && (z1 == z2 && decide (a = b))) w := by
  have u1 := Tryd.underlying4
  have u2 := Tryd.underlying3
  have u3 := Tryd.underlying28
  have un := Tryd.underlying49
  have hw := fun n w => wide_eqN n ha hb w
  rw [show (10000 : Nat) = 9997 + 3 from rfl]
  go_simp
  by_cases h1 : n1 = n2 <;> by_cases h2 : z1 = z2 <;> by_cases h3 : a = b <;> simp [h1, h2, h3]

/-- Is a number right? -/
def rgt (z : Int) : Bool := decide (-1048576 ≤ z) && decide (z ≤ 1048576)

theorem uRight_any (neg : Bool) (z : Int) (s : Nat) (w : World) : Calls Tryd.prog 42 #[.agg #[.bool (neg), .int .i64 (z), .int .u64 (dgl (s) 0 : Nat), .int .u64 (dgl (s) 1 : Nat), .int .u64 (dgl (s) 2 : Nat), .int .u64 (dgl (s) 3 : Nat), .int .u64 (dgl (s) 4 : Nat), .int .u64 (dgl (s) 5 : Nat), .int .u64 (dgl (s) 6 : Nat), .int .u64 (dgl (s) 7 : Nat)]] w fun e w' => e = .returned (.bool (rgt z)) ∧ Below w.heap.size w w' := by
  have HR : Hid (∀ b, decide (-1048576 ≤ z) = b → rgt z = (b && decide (z ≤ 1048576))) := fun b hb => by rw [← hb]; rfl
  have HB := hide (below_allocs w (.cells #[.bool (neg), .int .i64 (z), .int .u64 (dgl (s) 0 : Nat), .int .u64 (dgl (s) 1 : Nat), .int .u64 (dgl (s) 2 : Nat), .int .u64 (dgl (s) 3 : Nat), .int .u64 (dgl (s) 4 : Nat), .int .u64 (dgl (s) 5 : Nat), .int .u64 (dgl (s) 6 : Nat), .int .u64 (dgl (s) 7 : Nat)] 49))
  go_enter Tryd.func42, Tryd.ntmps42
  by_cases h : -1048576 ≤ z
  · have HF := hide (HR.out true (decide_eq_true h))
    go_wp2
    go_ret
    exact ⟨ret_bl HF.out.symm, HB.out⟩
  · have HF := hide (HR.out false (decide_eq_false h))
    go_wp2
    go_ret
    exact ⟨ret_bl HF.out.symm, HB.out⟩

theorem refRight_any (neg : Bool) (z : Int) (s : Nat) (w : World) : Calls Tryd.prog 41 #[.agg #[.bool (neg), .int .i64 (z), .int .u64 (dgl (s) 0 : Nat), .int .u64 (dgl (s) 1 : Nat), .int .u64 (dgl (s) 2 : Nat), .int .u64 (dgl (s) 3 : Nat), .int .u64 (dgl (s) 4 : Nat), .int .u64 (dgl (s) 5 : Nat), .int .u64 (dgl (s) 6 : Nat), .int .u64 (dgl (s) 7 : Nat)]] w fun e w' => e = .returned (.bool (rgt z)) ∧ Below w.heap.size w w' := by
  have HR : Hid (∀ b, decide (-1048576 ≤ z) = b → rgt z = (b && decide (z ≤ 1048576))) := fun b hb => by rw [← hb]; rfl
  have HB := hide (below_allocs w (.cells #[.bool (neg), .int .i64 (z), .int .u64 (dgl (s) 0 : Nat), .int .u64 (dgl (s) 1 : Nat), .int .u64 (dgl (s) 2 : Nat), .int .u64 (dgl (s) 3 : Nat), .int .u64 (dgl (s) 4 : Nat), .int .u64 (dgl (s) 5 : Nat), .int .u64 (dgl (s) 6 : Nat), .int .u64 (dgl (s) 7 : Nat)] 49))
  go_enter Tryd.func41, Tryd.ntmps41
  by_cases h : -1048576 ≤ z
  · have HF := hide (HR.out true (decide_eq_true h))
    go_wp2
    go_ret
    exact ⟨ret_bl HF.out.symm, HB.out⟩
  · have HF := hide (HR.out false (decide_eq_false h))
    go_wp2
    go_ret
    exact ⟨ret_bl HF.out.symm, HB.out⟩

theorem low_1 (w : World) : Calls Tryd.prog 83 #[.agg #[.int .i64 (16), .int .i64 (11), .int .i64 (15), .int .i64 (-14), .int .i64 (5)]] w fun e w' => e = .returned (.int .i64 (-24)) ∧ Below w.heap.size w w' := by
  go_enter Tryd.func83, Tryd.ntmps83
  go_wp2
  go_ret
  exact ⟨rfl, below_allocs _ _⟩

theorem low_2 (w : World) : Calls Tryd.prog 83 #[.agg #[.int .i64 (32), .int .i64 (24), .int .i64 (127), .int .i64 (-126), .int .i64 (8)]] w fun e w' => e = .returned (.int .i64 (-149)) ∧ Below w.heap.size w w' := by
  go_enter Tryd.func83, Tryd.ntmps83
  go_wp2
  go_ret
  exact ⟨rfl, below_allocs _ _⟩

theorem low_3 (w : World) : Calls Tryd.prog 83 #[.agg #[.int .i64 (64), .int .i64 (53), .int .i64 (1023), .int .i64 (-1022), .int .i64 (11)]] w fun e w' => e = .returned (.int .i64 (-1074)) ∧ Below w.heap.size w w' := by
  go_enter Tryd.func83, Tryd.ntmps83
  go_wp2
  go_ret
  exact ⟨rfl, below_allocs _ _⟩

theorem low_4 (w : World) : Calls Tryd.prog 83 #[.agg #[.int .i64 (128), .int .i64 (113), .int .i64 (16383), .int .i64 (-16382), .int .i64 (15)]] w fun e w' => e = .returned (.int .i64 (-16494)) ∧ Below w.heap.size w w' := by
  go_enter Tryd.func83, Tryd.ntmps83
  go_wp2
  go_ret
  exact ⟨rfl, below_allocs _ _⟩

end Go.Proofs.YtidfegilddlglaaDoor

