/- Contracts and laws: ProdA, ProdB. -/
import Derived.Test.YtidfegilddlglaaDoorBaseK
/- The sum of limbs' products, as numbers. -/
set_option linter.unusedVariables false
set_option linter.unusedSimpArgs false
set_option maxRecDepth 8000
namespace Go.Proofs.YtidfegilddlglaaDoor
open Go.RowKit Plain

/-- A limb. -/
def LW : Nat := 18446744073709551616
theorem lw_pos : 0 < LW := by decide
theorem dgl_lw (n k : Nat) : dgl n k = n / LW ^ k % LW := rfl

/-- The product of two limbs, if it is wanted. -/
def cw (a b : Nat) (wt : Nat → Bool) (i k : Nat) : Nat := bif wt (i + k) then dgl a i * dgl b k else 0
def rowS (a b : Nat) (wt : Nat → Bool) (i : Nat) : Nat → Nat
  | 0 => 0
  | k + 1 => rowS a b wt i k + cw a b wt i k * LW ^ (i + k)
def allS (a b : Nat) (wt : Nat → Bool) : Nat → Nat
  | 0 => 0
  | i + 1 => allS a b wt i + rowS a b wt i 8

theorem row_zero (a b : Nat) (wt : Nat → Bool) (i : Nat) (h : dgl a i = 0) : ∀ k, rowS a b wt i k = 0
  | 0 => rfl
  | k + 1 => by
    unfold rowS cw
    rw [row_zero a b wt i h k, h, Nat.zero_mul]
    cases wt (i + k) <;> simp

structure PInv (a b : Nat) (wt : Nat → Bool) (i k c : Nat) (o : List Nat) : Prop where
  len : o.length = 16
  lt : ∀ j, dg o j < LW
  hi : ∀ j, i + 8 ≤ j → dg o j = 0
  cl : c < LW
  sum : val LW o + c * LW ^ (i + k) = allS a b wt i + rowS a b wt i k

theorem pinv_start (a b : Nat) (wt : Nat → Bool) : PInv a b wt 0 0 0 (List.replicate 16 0) :=
  ⟨rfl, fun j => by rw [dg_zeros]; exact lw_pos, fun j _ => dg_zeros _ _, lw_pos, by rw [val_zeros]; rfl⟩

theorem cw_le (a b : Nat) (wt : Nat → Bool) (i k : Nat) : cw a b wt i k ≤ (LW - 1) * (LW - 1) := by
  unfold cw
  cases wt (i + k)
  · exact Nat.zero_le _
  · have h1 := dgl_lt a i
    have h2 := dgl_lt b k
    exact Nat.mul_le_mul (by unfold LW; omega) (by unfold LW; omega)

theorem pinv_step {a b i k c : Nat} {wt : Nat → Bool} {o : List Nat} (h : PInv a b wt i k c o) (hi : i < 8) (hk : k < 8) (hh l s1 c1 s2 c2 : Nat)
    (hm : l + LW * hh = cw a b wt i k) (h1 : s1 + LW * c1 = dg o (i + k) + l) (h2 : s2 + LW * c2 = s1 + c) (hs2 : s2 < LW) :
    hh + c1 + c2 < LW ∧ PInv a b wt i (k + 1) (hh + c1 + c2) (o.set (i + k) s2) := by
  have hlt : i + k < o.length := by rw [h.len]; omega
  have hc : hh + c1 + c2 < LW := by
    have e1 := cw_le a b wt i k
    have e2 := h.lt (i + k)
    have e3 := h.cl
    unfold LW at *
    omega
  refine ⟨hc, by rw [List.length_set]; exact h.len, fun j => ?_, fun j hj => ?_, hc, ?_⟩
  · rw [dg_set _ _ _ _ hlt]
    split
    · exact hs2
    · exact h.lt j
  · rw [dg_set _ _ _ _ hlt, if_neg (by omega)]
    exact h.hi j hj
  · have hv := val_set LW o (i + k) s2 hlt
    have hs := h.sum
    unfold rowS
    rw [← Nat.add_assoc (allS a b wt i), ← hs, ← hm, ← Nat.add_assoc i k 1, Nat.pow_succ]
    have e : s2 + LW * (hh + c1 + c2) = dg o (i + k) + c + (l + LW * hh) := by
      rw [Nat.mul_add, Nat.mul_add]; omega
    generalize LW ^ (i + k) = Q at *
    have e2 : (s2 + LW * (hh + c1 + c2)) * Q = (dg o (i + k) + c + (l + LW * hh)) * Q := by rw [e]
    rw [Nat.add_mul, Nat.add_mul, Nat.add_mul] at e2
    have e3 : (hh + c1 + c2) * (Q * LW) = LW * (hh + c1 + c2) * Q := by ac_rfl
    rw [e3]
    omega

theorem pinv_row {a b i c : Nat} {wt : Nat → Bool} {o : List Nat} (h : PInv a b wt i 8 c o) (hi : i < 8) : PInv a b wt (i + 1) 0 0 (o.set (i + 8) c) := by
  have hlt : i + 8 < o.length := by rw [h.len]; omega
  refine ⟨by rw [List.length_set]; exact h.len, fun j => ?_, fun j hj => ?_, lw_pos, ?_⟩
  · rw [dg_set _ _ _ _ hlt]
    split
    · exact h.cl
    · exact h.lt j
  · rw [dg_set _ _ _ _ hlt, if_neg (by omega)]
    exact h.hi j (by omega)
  · have hv := val_set LW o (i + 8) c hlt
    rw [h.hi (i + 8) (Nat.le_refl _)] at hv
    have hs := h.sum
    show _ = allS a b wt i + rowS a b wt i 8 + 0
    omega
theorem pinv_skip {a b i : Nat} {wt : Nat → Bool} {o : List Nat} (h : PInv a b wt i 0 0 o) (h0 : dgl a i = 0) : PInv a b wt (i + 1) 0 0 o := by
  refine ⟨h.len, h.lt, fun j hj => h.hi j (by omega), lw_pos, ?_⟩
  have hs := h.sum
  show _ = allS a b wt i + rowS a b wt i 8 + 0
  rw [row_zero a b wt i h0]
  have : rowS a b wt i 0 = 0 := rfl
  omega

theorem pinv_end {a b : Nat} {wt : Nat → Bool} {o : List Nat} (h : PInv a b wt 8 0 0 o) : (∀ j, dg o j = dgl (allS a b wt 8) j) ∧ allS a b wt 8 < LW ^ 16 := by
  have hd := val_dig lw_pos o h.lt
  have hs := h.sum
  have hv : val LW o = allS a b wt 8 := by
    have : rowS a b wt 8 0 = 0 := rfl
    omega
  rw [hv] at hd
  exact ⟨fun j => hd.2 j, by have := hd.1; rw [h.len] at this; exact this⟩

theorem mod_up (a k : Nat) : a % LW ^ (k + 1) = a % LW ^ k + LW ^ k * dgl a k := by
  rw [Nat.pow_succ, Nat.mod_mul]; rfl
theorem row_all (a b i : Nat) : ∀ k, rowS a b (fun _ => true) i k = dgl a i * LW ^ i * (b % LW ^ k)
  | 0 => by rw [Nat.pow_zero, Nat.mod_one, Nat.mul_zero]; rfl
  | k + 1 => by
    unfold rowS
    rw [row_all a b i k, mod_up, Nat.mul_add]
    congr 1
    show dgl a i * dgl b k * LW ^ (i + k) = _
    rw [Nat.pow_add]; ac_rfl
theorem all_all (a b : Nat) : ∀ i, allS a b (fun _ => true) i = (a % LW ^ i) * (b % LW ^ 8)
  | 0 => by rw [Nat.pow_zero, Nat.mod_one, Nat.zero_mul]; rfl
  | i + 1 => by
    unfold allS
    rw [all_all a b i, row_all, mod_up a i, Nat.add_mul]
    congr 1
    ac_rfl
theorem all_mul (a b : Nat) (ha : a < QQ) (hb : b < QQ) : allS a b (fun _ => true) 8 = a * b := by
  rw [all_all, show a % LW ^ 8 = a from Nat.mod_eq_of_lt ha, show b % LW ^ 8 = b from Nat.mod_eq_of_lt hb]

theorem dgl_high (n j : Nat) : dgl n (8 + j) = dgl (n / QQ) j := by
  unfold dgl QQ
  rw [Nat.pow_add, Nat.div_div_eq_div_mul]

end Go.Proofs.YtidfegilddlglaaDoor

/- Contracts: prod.summed. -/
set_option linter.unusedVariables false
set_option linter.unusedSimpArgs false
set_option maxRecDepth 8000
namespace Go.Proofs.YtidfegilddlglaaDoor
open Go.RowKit Plain

theorem idx_run (f : Nat → Nat) (i : Nat) (hi : i < 8) (w : World) : (Instr.index 28 (.agg #[.int .u64 (f 0 : Nat), .int .u64 (f 1 : Nat), .int .u64 (f 2 : Nat), .int .u64 (f 3 : Nat), .int .u64 (f 4 : Nat), .int .u64 (f 5 : Nat), .int .u64 (f 6 : Nat), .int .u64 (f 7 : Nat)]) (.int .i64 (i : Nat))).run Tryd.prog w = .ok (.int .u64 (f i : Nat)) w := by
  match i, hi with
  | 0, _ => simp [Instr.index, go_sem, run_underlying Tryd.underlying28]
  | 1, _ => simp [Instr.index, go_sem, run_underlying Tryd.underlying28]
  | 2, _ => simp [Instr.index, go_sem, run_underlying Tryd.underlying28]
  | 3, _ => simp [Instr.index, go_sem, run_underlying Tryd.underlying28]
  | 4, _ => simp [Instr.index, go_sem, run_underlying Tryd.underlying28]
  | 5, _ => simp [Instr.index, go_sem, run_underlying Tryd.underlying28]
  | 6, _ => simp [Instr.index, go_sem, run_underlying Tryd.underlying28]
  | 7, _ => simp [Instr.index, go_sem, run_underlying Tryd.underlying28]

end Go.Proofs.YtidfegilddlglaaDoor

