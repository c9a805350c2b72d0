/- Contracts and laws: ProdA, ProdB. -/
import Derived.Test.YtjklehlkgccmnaaBaseK
/- The sum of limbs' products, as numbers. -/
set_option linter.unusedVariables false
set_option linter.unusedSimpArgs false
set_option maxRecDepth 8000
namespace Go.Proofs.Ytjklehlkgccmnaa
open Go.RowKit Plain

/-- A limb. -/
def LW : Nat := 18446744073709551616
theorem lw_pos : 0 < LW := by decide
theorem dgl_lw (n k : Nat) : dgl n k = n / LW ^ k % LW := rfl

/-- The product of two limbs, if it is wanted. -/
def cw (a b : Nat) (wt : Nat → Bool) (i k : Nat) : Nat := bif wt (i + k) then dgl a i * dgl b k else 0
def rowS (a b : Nat) (wt : Nat → Bool) (i : Nat) : Nat → Nat
  | 0 => 0
  | k + 1 => rowS a b wt i k + cw a b wt i k * LW ^ (i + k)
def allS (a b : Nat) (wt : Nat → Bool) : Nat → Nat
  | 0 => 0
  | i + 1 => allS a b wt i + rowS a b wt i 8

theorem row_zero (a b : Nat) (wt : Nat → Bool) (i : Nat) (h : dgl a i = 0) : ∀ k, rowS a b wt i k = 0
  | 0 => rfl
  | k + 1 => by
    unfold rowS cw
    rw [row_zero a b wt i h k, h, Nat.zero_mul]
    cases wt (i + k) <;> simp

structure PInv (a b : Nat) (wt : Nat → Bool) (i k c : Nat) (o : List Nat) : Prop where
  len : o.length = 16
  lt : ∀ j, dg o j < LW
  hi : ∀ j, i + 8 ≤ j → dg o j = 0
  cl : c < LW
  sum : val LW o + c * LW ^ (i + k) = allS a b wt i + rowS a b wt i k

theorem pinv_start (a b : Nat) (wt : Nat → Bool) : PInv a b wt 0 0 0 (List.replicate 16 0) :=
  ⟨rfl, fun j => by rw [dg_zeros]; exact lw_pos, fun j _ => dg_zeros _ _, lw_pos, by rw [val_zeros]; rfl⟩

theorem cw_le (a b : Nat) (wt : Nat → Bool) (i k : Nat) : cw a b wt i k ≤ (LW - 1) * (LW - 1) := by
  unfold cw
  cases wt (i + k)
  · exact Nat.zero_le _
  · have h1 := dgl_lt a i
    have h2 := dgl_lt b k
    exact Nat.mul_le_mul (by unfold LW; omega) (by unfold LW; omega)

theorem pinv_step {a b i k c : Nat} {wt : Nat → Bool} {o : List Nat} (h : PInv a b wt i k c o) (hi : i < 8) (hk : k < 8) (hh l s1 c1 s2 c2 : Nat)
    (hm : l + LW * hh = cw a b wt i k) (h1 : s1 + LW * c1 = dg o (i + k) + l) (h2 : s2 + LW * c2 = s1 + c) (hs2 : s2 < LW) :
    hh + c1 + c2 < LW ∧ PInv a b wt i (k + 1) (hh + c1 + c2) (o.set (i + k) s2) := by
  have hlt : i + k < o.length := by rw [h.len]; omega
  have hc : hh + c1 + c2 < LW := by
    have e1 := cw_le a b wt i k
    have e2 := h.lt (i + k)
    have e3 := h.cl
    unfold LW at *
    omega
  refine ⟨hc, by rw [List.length_set]; exact h.len, fun j => ?_, fun j hj => ?_, hc, ?_⟩
  · rw [dg_set _ _ _ _ hlt]
    split
    · exact hs2
    · exact h.lt j
  · rw [dg_set _ _ _ _ hlt, if_neg (by omega)]
    exact h.hi j hj
  · have hv := val_set LW o (i + k) s2 hlt
    have hs := h.sum
    unfold rowS
    rw [← Nat.add_assoc (allS a b wt i), ← hs, ← hm, ← Nat.add_assoc i k 1, Nat.pow_succ]
    have e : s2 + LW * (hh + c1 + c2) = dg o (i + k) + c + (l + LW * hh) := by
      rw [Nat.mul_add, Nat.mul_add]; omega
    generalize LW ^ (i + k) = Q at *
    have e2 : (s2 + LW * (hh + c1 + c2)) * Q = (dg o (i + k) + c + (l + LW * hh)) * Q := by rw [e]
    rw [Nat.add_mul, Nat.add_mul, Nat.add_mul] at e2
    have e3 : (hh + c1 + c2) * (Q * LW) = LW * (hh + c1 + c2) * Q := by ac_rfl
    rw [e3]
    omega

theorem pinv_row {a b i c : Nat} {wt : Nat → Bool} {o : List Nat} (h : PInv a b wt i 8 c o) (hi : i < 8) : PInv a b wt (i + 1) 0 0 (o.set (i + 8) c) := by
  have hlt : i + 8 < o.length := by rw [h.len]; omega
  refine ⟨by rw [List.length_set]; exact h.len, fun j => ?_, fun j hj => ?_, lw_pos, ?_⟩
  · rw [dg_set _ _ _ _ hlt]
    split
    · exact h.cl
    · exact h.lt j
  · rw [dg_set _ _ _ _ hlt, if_neg (by omega)]
    exact h.hi j (by omega)
  · have hv := val_set LW o (i + 8) c hlt
    rw [h.hi (i + 8) (Nat.le_refl _)] at hv
    have hs := h.sum
    show _ = allS a b wt i + rowS a b wt i 8 + 0
    omega
theorem pinv_skip {a b i : Nat} {wt : Nat → Bool} {o : List Nat} (h : PInv a b wt i 0 0 o) (h0 : dgl a i = 0) : PInv a b wt (i + 1) 0 0 o := by
  refine ⟨h.len, h.lt, fun j hj => h.hi j (by omega), lw_pos, ?_⟩
  have hs := h.sum
  show _ = allS a b wt i + rowS a b wt i 8 + 0
  rw [row_zero a b wt i h0]
  have : rowS a b wt i 0 = 0 := rfl
  omega

theorem pinv_end {a b : Nat} {wt : Nat → Bool} {o : List Nat} (h : PInv a b wt 8 0 0 o) : (∀ j, dg o j = dgl (allS a b wt 8) j) ∧ allS a b wt 8 < LW ^ 16 := by
  have hd := val_dig lw_pos o h.lt
  have hs := h.sum
  have hv : val LW o = allS a b wt 8 := by
    have : rowS a b wt 8 0 = 0 := rfl
    omega
  rw [hv] at hd
  exact ⟨fun j => hd.2 j, by have := hd.1; rw [h.len] at this; exact this⟩

theorem mod_up (a k : Nat) : a % LW ^ (k + 1) = a % LW ^ k + LW ^ k * dgl a k := by
  rw [Nat.pow_succ, Nat.mod_mul]; rfl
theorem row_all (a b i : Nat) : ∀ k, rowS a b (fun _ => true) i k = dgl a i * LW ^ i * (b % LW ^ k)
  | 0 => by rw [Nat.pow_zero, Nat.mod_one, Nat.mul_zero]; rfl
  | k + 1 => by
    unfold rowS
    rw [row_all a b i k, mod_up, Nat.mul_add]
    congr 1
    show dgl a i * dgl b k * LW ^ (i + k) = _
    rw [Nat.pow_add]; ac_rfl
theorem all_all (a b : Nat) : ∀ i, allS a b (fun _ => true) i = (a % LW ^ i) * (b % LW ^ 8)
  | 0 => by rw [Nat.pow_zero, Nat.mod_one, Nat.zero_mul]; rfl
  | i + 1 => by
    unfold allS
    rw [all_all a b i, row_all, mod_up a i, Nat.add_mul]
    congr 1
    ac_rfl
theorem all_mul (a b : Nat) (ha : a < QQ) (hb : b < QQ) : allS a b (fun _ => true) 8 = a * b := by
  rw [all_all, show a % LW ^ 8 = a from Nat.mod_eq_of_lt ha, show b % LW ^ 8 = b from Nat.mod_eq_of_lt hb]

theorem dgl_high (n j : Nat) : dgl n (8 + j) = dgl (n / QQ) j := by
  unfold dgl QQ
  rw [Nat.pow_add, Nat.div_div_eq_div_mul]

end Go.Proofs.Ytjklehlkgccmnaa

/- Contracts: prod.summed. -/
set_option linter.unusedVariables false
set_option linter.unusedSimpArgs false
set_option maxRecDepth 8000
namespace Go.Proofs.Ytjklehlkgccmnaa
open Go.RowKit Plain

theorem idx_run (f : Nat → Nat) (i : Nat) (hi : i < 8) (w : World) : (Instr.index 24 (.agg #[.int .u64 (f 0 : Nat), .int .u64 (f 1 : Nat), .int .u64 (f 2 : Nat), .int .u64 (f 3 : Nat), .int .u64 (f 4 : Nat), .int .u64 (f 5 : Nat), .int .u64 (f 6 : Nat), .int .u64 (f 7 : Nat)]) (.int .i64 (i : Nat))).run Try.prog w = .ok (.int .u64 (f i : Nat)) w := by
  match i, hi with
  | 0, _ => simp [Instr.index, go_sem, run_underlying Try.underlying24]
  | 1, _ => simp [Instr.index, go_sem, run_underlying Try.underlying24]
  | 2, _ => simp [Instr.index, go_sem, run_underlying Try.underlying24]
  | 3, _ => simp [Instr.index, go_sem, run_underlying Try.underlying24]
  | 4, _ => simp [Instr.index, go_sem, run_underlying Try.underlying24]
  | 5, _ => simp [Instr.index, go_sem, run_underlying Try.underlying24]
  | 6, _ => simp [Instr.index, go_sem, run_underlying Try.underlying24]
  | 7, _ => simp [Instr.index, go_sem, run_underlying Try.underlying24]

structure SumSt (w : World) (b : Nat) (o : List Nat) (wr : World) : Prop where
  lb : LiesF wr (w.heap.size + 1) (dgl b)
  own : wr.ownsRow w.heap.size 111 1 (.slice (some ⟨w.heap.size + 1 + 1 + 1, 0, none⟩) 16 16) 16 (o.map mk64)
  res : wr.ownsRow w.heap.size 111 1 (.slice (some ⟨w.heap.size + 1 + 1, 0, none⟩) 16 16) 16 ((List.replicate 16 0).map mk64)
  bel : Below w.heap.size w wr

theorem SumSt.start (w : World) (a b : Nat) : SumSt w b (List.replicate 16 0) ((((w.alloc (.cells #[.int .u64 (dgl (a) 0 : Nat), .int .u64 (dgl (a) 1 : Nat), .int .u64 (dgl (a) 2 : Nat), .int .u64 (dgl (a) 3 : Nat), .int .u64 (dgl (a) 4 : Nat), .int .u64 (dgl (a) 5 : Nat), .int .u64 (dgl (a) 6 : Nat), .int .u64 (dgl (a) 7 : Nat)] 24)).alloc (.cells #[.int .u64 (dgl (b) 0 : Nat), .int .u64 (dgl (b) 1 : Nat), .int .u64 (dgl (b) 2 : Nat), .int .u64 (dgl (b) 3 : Nat), .int .u64 (dgl (b) 4 : Nat), .int .u64 (dgl (b) 5 : Nat), .int .u64 (dgl (b) 6 : Nat), .int .u64 (dgl (b) 7 : Nat)] 24)).alloc (.cells #[.int .u64 0, .int .u64 0, .int .u64 0, .int .u64 0, .int .u64 0, .int .u64 0, .int .u64 0, .int .u64 0, .int .u64 0, .int .u64 0, .int .u64 0, .int .u64 0, .int .u64 0, .int .u64 0, .int .u64 0, .int .u64 0] 111)).alloc (.cells #[.int .u64 0, .int .u64 0, .int .u64 0, .int .u64 0, .int .u64 0, .int .u64 0, .int .u64 0, .int .u64 0, .int .u64 0, .int .u64 0, .int .u64 0, .int .u64 0, .int .u64 0, .int .u64 0, .int .u64 0, .int .u64 0] 111)) := by
  have h1 := liesF_new (w.alloc (.cells #[.int .u64 (dgl (a) 0 : Nat), .int .u64 (dgl (a) 1 : Nat), .int .u64 (dgl (a) 2 : Nat), .int .u64 (dgl (a) 3 : Nat), .int .u64 (dgl (a) 4 : Nat), .int .u64 (dgl (a) 5 : Nat), .int .u64 (dgl (a) 6 : Nat), .int .u64 (dgl (a) 7 : Nat)] 24)) (dgl b) 24
  have h2 := World.ownsRow_lit (base := w.heap.size) (e := 111) (size := 1) ((w.alloc (.cells #[.int .u64 (dgl (a) 0 : Nat), .int .u64 (dgl (a) 1 : Nat), .int .u64 (dgl (a) 2 : Nat), .int .u64 (dgl (a) 3 : Nat), .int .u64 (dgl (a) 4 : Nat), .int .u64 (dgl (a) 5 : Nat), .int .u64 (dgl (a) 6 : Nat), .int .u64 (dgl (a) 7 : Nat)] 24)).alloc (.cells #[.int .u64 (dgl (b) 0 : Nat), .int .u64 (dgl (b) 1 : Nat), .int .u64 (dgl (b) 2 : Nat), .int .u64 (dgl (b) 3 : Nat), .int .u64 (dgl (b) 4 : Nat), .int .u64 (dgl (b) 5 : Nat), .int .u64 (dgl (b) 6 : Nat), .int .u64 (dgl (b) 7 : Nat)] 24)) #[.int .u64 0, .int .u64 0, .int .u64 0, .int .u64 0, .int .u64 0, .int .u64 0, .int .u64 0, .int .u64 0, .int .u64 0, .int .u64 0, .int .u64 0, .int .u64 0, .int .u64 0, .int .u64 0, .int .u64 0, .int .u64 0] 16 (by simp; omega) (by simp [maxLen]) rfl
  have h3 := World.ownsRow_lit (base := w.heap.size) (e := 111) (size := 1) (((w.alloc (.cells #[.int .u64 (dgl (a) 0 : Nat), .int .u64 (dgl (a) 1 : Nat), .int .u64 (dgl (a) 2 : Nat), .int .u64 (dgl (a) 3 : Nat), .int .u64 (dgl (a) 4 : Nat), .int .u64 (dgl (a) 5 : Nat), .int .u64 (dgl (a) 6 : Nat), .int .u64 (dgl (a) 7 : Nat)] 24)).alloc (.cells #[.int .u64 (dgl (b) 0 : Nat), .int .u64 (dgl (b) 1 : Nat), .int .u64 (dgl (b) 2 : Nat), .int .u64 (dgl (b) 3 : Nat), .int .u64 (dgl (b) 4 : Nat), .int .u64 (dgl (b) 5 : Nat), .int .u64 (dgl (b) 6 : Nat), .int .u64 (dgl (b) 7 : Nat)] 24)).alloc (.cells #[.int .u64 0, .int .u64 0, .int .u64 0, .int .u64 0, .int .u64 0, .int .u64 0, .int .u64 0, .int .u64 0, .int .u64 0, .int .u64 0, .int .u64 0, .int .u64 0, .int .u64 0, .int .u64 0, .int .u64 0, .int .u64 0] 111)) #[.int .u64 0, .int .u64 0, .int .u64 0, .int .u64 0, .int .u64 0, .int .u64 0, .int .u64 0, .int .u64 0, .int .u64 0, .int .u64 0, .int .u64 0, .int .u64 0, .int .u64 0, .int .u64 0, .int .u64 0, .int .u64 0] 16 (by simp; omega) (by simp [maxLen]) rfl
  simp only [World.size_alloc] at h1 h2 h3
  exact ⟨(h1.alloc _).alloc _, h3, h2.alloc _, below_trans (below_trans (below_trans (below_allocs _ _) (below_allocs _ _)) (below_allocs _ _)) (below_allocs _ _)⟩

theorem SumSt.store {w : World} {b : Nat} {o : List Nat} {wr : World} (h : SumSt w b o wr) (hl : o.length = 16) (j d : Nat) : SumSt w b (o.set j d) (wr.setCell ⟨w.heap.size + 1 + 1 + 1, j, none⟩ (.int .u64 (d : Nat))) := by
  have hs := owns_store (mk := mk64) h.own j d h.bel (by omega)
  have hr := h.res.kept (h.own.stored j (mk64 d)).2 (.inr (by simp [Value.ownBlock]))
  refine ⟨⟨fun i hi => ?_, by simpa using h.lb.2⟩, hs.1, hr, hs.2⟩
  have := h.lb.1 i hi
  simp [go_sem, this]

set_option maxHeartbeats 4000000 in
theorem summed_any (fid : Nat) (caps : Array Value) (wt : Nat → Bool) (a b : Nat) (w : World)
    (hent : ∀ args w, (callFunc fid args).run Try.prog w = .ok (.enter fid args) w)
    (hcall : ∀ (p : Nat) wr, p < 16 → Below w.heap.size w wr → Calls Try.prog fid (#[.int .i64 (p : Nat)] ++ caps) wr fun e w' => e = .returned (.bool (wt p)) ∧ w' = wr) :
    Calls Try.prog 78 #[.agg #[.int .u64 (dgl (a) 0 : Nat), .int .u64 (dgl (a) 1 : Nat), .int .u64 (dgl (a) 2 : Nat), .int .u64 (dgl (a) 3 : Nat), .int .u64 (dgl (a) 4 : Nat), .int .u64 (dgl (a) 5 : Nat), .int .u64 (dgl (a) 6 : Nat), .int .u64 (dgl (a) 7 : Nat)], .agg #[.int .u64 (dgl (b) 0 : Nat), .int .u64 (dgl (b) 1 : Nat), .int .u64 (dgl (b) 2 : Nat), .int .u64 (dgl (b) 3 : Nat), .int .u64 (dgl (b) 4 : Nat), .int .u64 (dgl (b) 5 : Nat), .int .u64 (dgl (b) 6 : Nat), .int .u64 (dgl (b) 7 : Nat)], .func (.func fid) #[] caps] w fun e w' => e = .returned (.agg #[.int .u64 (dgl (allS a b wt 8) 0 : Nat), .int .u64 (dgl (allS a b wt 8) 1 : Nat), .int .u64 (dgl (allS a b wt 8) 2 : Nat), .int .u64 (dgl (allS a b wt 8) 3 : Nat), .int .u64 (dgl (allS a b wt 8) 4 : Nat), .int .u64 (dgl (allS a b wt 8) 5 : Nat), .int .u64 (dgl (allS a b wt 8) 6 : Nat), .int .u64 (dgl (allS a b wt 8) 7 : Nat), .int .u64 (dgl (allS a b wt 8) 8 : Nat), .int .u64 (dgl (allS a b wt 8) 9 : Nat), .int .u64 (dgl (allS a b wt 8) 10 : Nat), .int .u64 (dgl (allS a b wt 8) 11 : Nat), .int .u64 (dgl (allS a b wt 8) 12 : Nat), .int .u64 (dgl (allS a b wt 8) 13 : Nat), .int .u64 (dgl (allS a b wt 8) 14 : Nat), .int .u64 (dgl (allS a b wt 8) 15 : Nat)]) ∧ Below w.heap.size w w' := by
  have HC := hide hcall
  clear hcall
  generalize hS : allS a b wt 8 = S
  have HSS := hide hS
  clear hS
  have HS0 := hide (SumSt.start w a b)
  go_enter Try.func78, Try.ntmps78
  go_wp2
  go_loopw [19] (fun i wr => ∃ (k : Nat) (o : List Nat), k ≤ 8 ∧ i = .int .i64 k ∧ Hid (PInv a b wt k 0 0 o) ∧ Hid (SumSt w b o wr))
    (fun i _ => 8 - (intOf i).toNat)
  case atStart => exact ⟨0, List.replicate 16 0, by omega, rfl, pinv_start a b wt, HS0.out⟩
  case round =>
    clear HS0
    obtain ⟨i, o, hi, rfl, hpi, hst⟩ := hrel
    by_cases hlt : i < 8
    · have hj1 : (i : Int) < 8 := by omega
      have hia := fun w => idx_run (dgl a) i hlt w
      have hda := dgl_lt a i
      by_cases h0 : dgl a i = 0
      · have HP := hide (pinv_skip hpi.out h0)
        rw [h0] at hia
        clear hpi h0 hda
        go_wp2
        go_roundw
        case rel => exact ⟨i + 1, o, by omega, by go_num, HP, hst⟩
        case measure => simp [intOf]; omega
      · have h0' : (((dgl a i : Nat) : Int) == 0) = false := by rw [beq_eq_false_iff_ne]; omega
        have hlb := hst.out.lb.1
        generalize hx : dgl a i = x at *
        have HX := hide hx
        clear hx
        go_wp2
        clear hlb h0 h0'
        go_loopw [10, 26] (fun c k wr => ∃ (kk c' : Nat) (o : List Nat), kk ≤ 8 ∧ k = .int .i64 kk ∧ c = .int .u64 c' ∧ Hid (PInv a b wt i kk c' o) ∧ Hid (SumSt w b o wr))
          (fun _ k _ => 8 - (intOf k).toNat)
        case atStart => exact ⟨0, 0, o, by omega, rfl, rfl, hpi, hst⟩
        case round =>
          clear hpi hst
          obtain ⟨k, c, o, hk, rfl, rfl, hpi, hst⟩ := hrel
          by_cases hlt2 : k < 8
          · have hj2 : (k : Int) < 8 := by omega
            have hib := fun w => idx_run (dgl b) k hlt2 w
            have hdb := dgl_lt b k
            have hik : (i : Int) + (k : Int) < 16 := by omega
            have hco : wr.cell? ⟨w.heap.size + 1 + 1 + 1, i + k, none⟩ = some (.int .u64 (dg o (i + k) : Nat)) := owns_cell hst.out.own hpi.out.len (i + k) (by omega)
            have hfo : wr.frozen? ⟨w.heap.size + 1 + 1 + 1, i + k, none⟩ = false := hst.out.own.frozenAt _
            have ho : dg o (i + k) < 18446744073709551616 := hpi.out.lt _
            have hcl : c < 18446744073709551616 := hpi.out.cl
            have HLEN := hide hpi.out.len
            have HSTEP := hide (fun hh l s1 c1 s2 c2 hm h1 h2 hs2 => pinv_step hpi.out hlt hlt2 hh l s1 c1 s2 c2 hm h1 h2 hs2)
            clear hpi
            generalize dg o (i + k) = od at *
            have HCP := hide (unhide HC (i + k) wr (by omega) hst.out.bel)
            rw [Int.natCast_add] at HCP
            have hAdd : ∀ (s1 c1 : Nat) (HH LO : Nat), True := fun _ _ _ _ => trivial
            clear hAdd
            cases hw : wt (i + k)
            · rw [hw] at HCP
              have HCW := hide (show cw a b wt i k = 0 by unfold cw; rw [hw]; rfl)
              clear hw
              go_wp2_with fail
              refine HCP.out.mono ?_
              rintro e w' ⟨rfl, hw'⟩
              subst w'
              go_wp2_with fail
              refine (add_nat od 0 0 _).mono ?_
              rintro e w' ⟨s1, c1, rfl, hs1, he1, hw'⟩
              subst w'
              go_wp2_with fail
              refine (add_nat s1 c 0 _).mono ?_
              rintro e w' ⟨s2, c2, rfl, hs2, he2, hw'⟩
              subst w'
              have he1' : s1 + 18446744073709551616 * c1 = od + 0 := he1
              have he2' : s2 + 18446744073709551616 * c2 = s1 + c := he2
              obtain ⟨hlt3, hpi2⟩ := HSTEP.out 0 0 s1 c1 s2 c2 (by rw [HCW.out]; rfl) he1' he2' hs2
              have HP2 := hide hpi2
              have hlt4 : (c1 : Int) + (c2 : Int) < 18446744073709551616 := by unfold LW at hlt3; omega
              have hlt5 : (c1 : Int) < 18446744073709551616 := by omega
              clear he1 he2 he1' he2' hpi2 hlt3
              go_wp2
              go_roundw
              case rel =>
                exact ⟨k + 1, 0 + c1 + c2, _, by omega, by go_num, by rw [Nat.zero_add, Int.natCast_add], HP2, hst.out.store HLEN.out (i + k) s2⟩
              case measure => simp [intOf]; omega
            · rw [hw] at HCP
              have HCW := hide (show cw a b wt i k = x * dgl b k by unfold cw; rw [hw, HX.out]; rfl)
              clear hw
              generalize dgl b k = y at *
              go_wp2_with fail
              refine HCP.out.mono ?_
              rintro e w' ⟨rfl, hw'⟩
              subst w'
              go_wp2_with fail
              refine (mul_nat x y hda hdb _).mono ?_
              rintro e w' ⟨hh, l, rfl, hhl, hll, hml, hw'⟩
              subst w'
              go_wp2_with fail
              refine (add_nat od l 0 _).mono ?_
              rintro e w' ⟨s1, c1, rfl, hs1, he1, hw'⟩
              subst w'
              go_wp2_with fail
              refine (add_nat s1 c 0 _).mono ?_
              rintro e w' ⟨s2, c2, rfl, hs2, he2, hw'⟩
              subst w'
              have he1' : s1 + 18446744073709551616 * c1 = od + l := he1
              have he2' : s2 + 18446744073709551616 * c2 = s1 + c := he2
              obtain ⟨hlt3, hpi2⟩ := HSTEP.out hh l s1 c1 s2 c2 (by rw [HCW.out]; exact hml) he1' he2' hs2
              have HP2 := hide hpi2
              have hlt4 : (hh : Int) + (c1 : Int) + (c2 : Int) < 18446744073709551616 := by unfold LW at hlt3; omega
              have hlt5 : (hh : Int) + (c1 : Int) < 18446744073709551616 := by omega
              clear he1 he2 he1' he2' hpi2 hlt3 hml
              go_wp2
              go_roundw
              case rel =>
                exact ⟨k + 1, hh + c1 + c2, _, by omega, by go_num, by rw [Int.natCast_add, Int.natCast_add], HP2, hst.out.store HLEN.out (i + k) s2⟩
              case measure => simp [intOf]; omega
          · have hk8 : k = 8 := by omega
            subst hk8
            have hco : wr.cell? ⟨w.heap.size + 1 + 1 + 1, i + 8, none⟩ = some (.int .u64 (dg o (i + 8) : Nat)) := owns_cell hst.out.own hpi.out.len (i + 8) (by omega)
            have hfo : wr.frozen? ⟨w.heap.size + 1 + 1 + 1, i + 8, none⟩ = false := hst.out.own.frozenAt _
            have HP2 := hide (pinv_row hpi.out hlt)
            have HLEN := hide hpi.out.len
            have hik : (i : Int) + 8 < 16 := by omega
            clear hpi
            generalize dg o (i + 8) = od at *
            go_wp2
            go_roundw
            case rel => exact ⟨i + 1, _, by omega, by go_num, HP2, hst.out.store HLEN.out (i + 8) c⟩
            case measure => simp [intOf]; omega
    · have hk8 : i = 8 := by omega
      subst hk8
      obtain ⟨hdig, -⟩ := pinv_end hpi.out
      rw [HSS.out] at hdig
      have hv : ∀ j, j < 16 → wr.cell? ⟨w.heap.size + 1 + 1 + 1, j, none⟩ = some (.int .u64 (dgl S j : Nat)) := fun j hj => by rw [owns_cell hst.out.own hpi.out.len j hj, hdig j]; rfl
      have hr : ∀ j, j < 16 → wr.cell? ⟨w.heap.size + 1 + 1, j, none⟩ = some (.int .u64 (dg (List.replicate 16 0) j : Nat)) := fun j hj => owns_cell hst.out.res (by simp) j hj
      have hfr : ∀ j, wr.frozen? ⟨w.heap.size + 1 + 1, j, none⟩ = false := fun j => hst.out.res.frozenAt j
      have HB := hide hst.out.bel
      clear hpi hst hdig
      go_wp2
      exact bodyPost_ret (v := .agg #[.int .u64 (dgl (S) 0 : Nat), .int .u64 (dgl (S) 1 : Nat), .int .u64 (dgl (S) 2 : Nat), .int .u64 (dgl (S) 3 : Nat), .int .u64 (dgl (S) 4 : Nat), .int .u64 (dgl (S) 5 : Nat), .int .u64 (dgl (S) 6 : Nat), .int .u64 (dgl (S) 7 : Nat), .int .u64 (dgl (S) 8 : Nat), .int .u64 (dgl (S) 9 : Nat), .int .u64 (dgl (S) 10 : Nat), .int .u64 (dgl (S) 11 : Nat), .int .u64 (dgl (S) 12 : Nat), .int .u64 (dgl (S) 13 : Nat), .int .u64 (dgl (S) 14 : Nat), .int .u64 (dgl (S) 15 : Nat)]) (by simp [results, Try.results78, go_sem, hr]) rfl ⟨rfl, ((((((((((((((((HB.out.setCell (p := ⟨w.heap.size + 1 + 1, 0, none⟩) (by simp; omega) _).setCell (p := ⟨w.heap.size + 1 + 1, 1, none⟩) (by simp; omega) _).setCell (p := ⟨w.heap.size + 1 + 1, 2, none⟩) (by simp; omega) _).setCell (p := ⟨w.heap.size + 1 + 1, 3, none⟩) (by simp; omega) _).setCell (p := ⟨w.heap.size + 1 + 1, 4, none⟩) (by simp; omega) _).setCell (p := ⟨w.heap.size + 1 + 1, 5, none⟩) (by simp; omega) _).setCell (p := ⟨w.heap.size + 1 + 1, 6, none⟩) (by simp; omega) _).setCell (p := ⟨w.heap.size + 1 + 1, 7, none⟩) (by simp; omega) _).setCell (p := ⟨w.heap.size + 1 + 1, 8, none⟩) (by simp; omega) _).setCell (p := ⟨w.heap.size + 1 + 1, 9, none⟩) (by simp; omega) _).setCell (p := ⟨w.heap.size + 1 + 1, 10, none⟩) (by simp; omega) _).setCell (p := ⟨w.heap.size + 1 + 1, 11, none⟩) (by simp; omega) _).setCell (p := ⟨w.heap.size + 1 + 1, 12, none⟩) (by simp; omega) _).setCell (p := ⟨w.heap.size + 1 + 1, 13, none⟩) (by simp; omega) _).setCell (p := ⟨w.heap.size + 1 + 1, 14, none⟩) (by simp; omega) _).setCell (p := ⟨w.heap.size + 1 + 1, 15, none⟩) (by simp; omega) _)⟩

end Go.Proofs.Ytjklehlkgccmnaa

