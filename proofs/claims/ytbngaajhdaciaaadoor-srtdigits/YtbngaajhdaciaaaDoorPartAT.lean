/- Contracts and laws: SrtR, SrtG, SrtH, SrtI, SrtJ, TabF, SrqJ. -/
import Derived.Test.YtbngaajhdaciaaaDoorPartAP
import Derived.Test.YtbngaajhdaciaaaDoorPartAL
import Derived.Test.YtbngaajhdaciaaaDoorPartAJ
import Derived.Test.YtbngaajhdaciaaaDoorPartAG
import Derived.Test.YtbngaajhdaciaaaDoorPartAM
/- Plain numbers of layer 16: the root so far stays within two thirds of its last digit's worth of the root (nothing of the program but the table's own numbers). -/
set_option linter.unusedVariables false
set_option linter.unusedSimpArgs false
set_option maxRecDepth 8000
namespace Go.Proofs.YtbngaajhdaciaaaDoor
open Plain

end Go.Proofs.YtbngaajhdaciaaaDoor

/- Contracts: radicandref16.Run. -/
set_option linter.unusedVariables false
set_option linter.unusedSimpArgs false
set_option maxRecDepth 8000
namespace Go.Proofs.YtbngaajhdaciaaaDoor
open Go.RowKit Plain

section
variable {base lu cu U : Nat} {ou : Option Addr} {w W W' : World}
end

end Go.Proofs.YtbngaajhdaciaaaDoor

/- radicandref16.Run: the digits, and the root so far, in plain numbers. -/
set_option linter.unusedVariables false
set_option linter.unusedSimpArgs false
set_option maxRecDepth 8000
namespace Go.Proofs.YtbngaajhdaciaaaDoor
open Go.RowKit Plain

end Go.Proofs.YtbngaajhdaciaaaDoor

/- What the digits come to in the end: the quotient or one more, the root or one more (plain numbers). -/
set_option linter.unusedVariables false
set_option linter.unusedSimpArgs false
set_option maxRecDepth 8000
namespace Go.Proofs.YtbngaajhdaciaaaDoor
open Go.RowKit Plain

theorem Ok15.num {n d : Nat} (h : Ok15 n d) : ((nu15 n d : Nat) : Int) = lf15 n d 65 + ((up15 d : Nat) : Int) * nm15 n d 65 := by
  have := lfS_num ((up15 d / 2 ^ 124 : Nat) : Int) (((2 ^ 124 : Nat) : Nat) : Int) ((up15 d : Nat) : Int) ((nu15 n d : Nat) : Int) 64 65 (by decide)
  rw [show 64 + 1 - 65 = 0 by rfl, Int.pow_zero, Int.mul_one] at this
  exact this
theorem nu15_div (n d : Nat) : nu15 n d / up15 d = n / d := Nat.mul_div_mul_right _ _ (Nat.two_pow_pos _)
theorem nu15_mod (n d : Nat) : nu15 n d % up15 d = n % d * 2 ^ (128 - Go.bitLen d) := Nat.mul_mod_mul_right _ _ _
/-- In the end: the quotient is the digits' number, or one less. -/
theorem Ok15.fin {n d : Nat} (h : Ok15 n d) :
    (0 ≤ lf15 n d 65 → ((n / d : Nat) : Int) = nm15 n d 65 ∧ ((n % d * 2 ^ (128 - Go.bitLen d) : Nat) : Int) = lf15 n d 65) ∧
    (lf15 n d 65 < 0 → ((n / d : Nat) : Int) = nm15 n d 65 - 1 ∧ ((n % d * 2 ^ (128 - Go.bitLen d) : Nat) : Int) = lf15 n d 65 + ((up15 d : Nat) : Int)) := by
  have hk := h.keeps 65 (by decide)
  rw [Nat.sub_self, Int.pow_zero, Int.mul_one] at hk
  have hD := srt_div_pos h.h1 h.hE h.hD1
  have he := lfS_end hD (by omega) (by omega) h.num
  rw [← nu15_div, ← nu15_mod, Int.natCast_ediv, Int.natCast_emod]
  exact he

end Go.Proofs.YtbngaajhdaciaaaDoor

/- The digits' row, and the number that fly.Convert makes of it (plain numbers). -/
set_option linter.unusedVariables false
set_option linter.unusedSimpArgs false
set_option maxRecDepth 8000
namespace Go.Proofs.YtbngaajhdaciaaaDoor
open Go.RowKit Plain

theorem seqL_zof (f : Nat → Int) (k i : Nat) (h : i < k) (hf : -2 ≤ f i ∧ f i ≤ 2) : zof (dg (seqL f k) i) = f i := by
  rw [seqL_get f k i h]
  unfold zof nof
  omega
theorem pZ_seq {i E D N : Int} {T : Nat} (hb : ∀ j, j ≤ T → -2 ≤ dgS i E D N T j ∧ dgS i E D N T j ≤ 2) (k : Nat) (hk : k ≤ T + 1) : ∀ j, j ≤ k → pZ (seqL (dgS i E D N T) k) j = nmS i E D N T j
  | 0, _ => rfl
  | j + 1, hj => by
    have ih := pZ_seq hb k hk j (by omega)
    show 4 * pZ _ j + zof (dg _ j) = 4 * nmS i E D N T j + dgS i E D N T j
    rw [ih, seqL_zof _ k j (by omega) (hb j (by omega))]
/-- The row of all the digits stands for their number. -/
theorem Ok15.pZ {n d : Nat} (h : Ok15 n d) : pZ (seqL (dg15 n d) 65) (seqL (dg15 n d) 65).length = nm15 n d 65 := by
  rw [seqL_len]
  exact pZ_seq (fun j hj => h.bd j (by omega)) 65 (by decide) 65 (by decide)
theorem Ok15.digits {n d : Nat} (h : Ok15 n d) (k : Nat) (hk : k ≤ 65) : ∀ i, i < k → isD (zof (dg (seqL (dg15 n d) k) i)) = true := by
  intro i hi
  have hb := h.bd i (by omega)
  rw [seqL_zof _ k i hi hb, isD_iff]
  omega
end Go.Proofs.YtbngaajhdaciaaaDoor

/- Contracts: table.Row. -/
set_option linter.unusedVariables false
set_option linter.unusedSimpArgs false
set_option maxRecDepth 8000
namespace Go.Proofs.YtbngaajhdaciaaaDoor
open Go.RowKit Plain

theorem fld_loT (x y : Value) (w : World) : (Instr.field 108 (.agg #[x, y]) 1).run Tryd.prog w = .ok y w := by
  have h64 := Tryd.underlying22
  have hg := Tryd.isAgg22
  simp [Instr.field, asAgg, go_sem, run_underlying Tryd.underlying108]
theorem bitLen_top (d : Nat) (h : d ≠ 0) : d < 2 ^ Go.bitLen d ∧ 2 ^ (Go.bitLen d - 1) ≤ d ∧ 1 ≤ Go.bitLen d := by
  have h1 := Go.bitLen_spec d
  refine ⟨h1.1, h1.2 h, ?_⟩
  unfold Go.bitLen
  rw [if_neg h]
  omega
/-- The four highest digits. -/
theorem row_num (d L M : Nat) (hd : d < 2 ^ L) (hl : 2 ^ (L - 1) ≤ d) (h1 : 1 ≤ L) (hL : L ≤ M + 4) :
    d * 2 ^ (M + 4 - L) < 2 ^ (M + 4) ∧ d * 2 ^ (M + 4 - L) / 2 ^ M = d * 2 ^ 4 / 2 ^ L ∧ 8 ≤ d * 2 ^ (M + 4 - L) / 2 ^ M ∧ d * 2 ^ (M + 4 - L) / 2 ^ M ≤ 15 := by
  have e1 : 2 ^ L * 2 ^ (M + 4 - L) = 2 ^ (M + 4) := by rw [← Nat.pow_add]; congr 1; omega
  have e2 : 2 ^ (M + 4) = 2 ^ M * 16 := by rw [Nat.pow_add]
  have p1 : 0 < 2 ^ (M + 4 - L) := Nat.two_pow_pos _
  have p2 : 0 < 2 ^ M := Nat.two_pow_pos _
  have p3 : 0 < 2 ^ L := Nat.two_pow_pos _
  have g1 : d * 2 ^ (M + 4 - L) < 2 ^ (M + 4) := by rw [← e1]; exact Nat.mul_lt_mul_of_pos_right hd p1
  have g2 : d * 2 ^ (M + 4 - L) / 2 ^ M = d * 2 ^ 4 / 2 ^ L := by
    rw [← Nat.mul_div_mul_right (d * 2 ^ (M + 4 - L)) (2 ^ M) p3, ← Nat.mul_div_mul_right (d * 2 ^ 4) (2 ^ L) p2, Nat.mul_assoc, Nat.mul_comm (2 ^ (M + 4 - L)) (2 ^ L), e1, Nat.mul_assoc, Nat.mul_comm (2 ^ 4) (2 ^ M), Nat.mul_comm (2 ^ L) (2 ^ M), show (2 : Nat) ^ 4 = 16 from rfl, e2]
  refine ⟨g1, g2, ?_, ?_⟩
  · rw [Nat.le_div_iff_mul_le p2]
    have e3 : 2 ^ (L - 1) * 2 ^ (M + 4 - L) = 2 ^ (M + 3) := by rw [← Nat.pow_add]; congr 1; omega
    have e4 : 2 ^ (M + 3) = 2 ^ M * 8 := by rw [Nat.pow_add]
    have := Nat.mul_le_mul_right (2 ^ (M + 4 - L)) hl
    rw [e3, e4] at this
    omega
  · have : d * 2 ^ (M + 4 - L) / 2 ^ M < 16 := by
      rw [Nat.div_lt_iff_lt_mul p2, Nat.mul_comm 16, ← e2]
      exact g1
    omega

set_option maxHeartbeats 4000000 in
theorem rowC_walk (d L k X r : Nat) (ov : Bool) (hwk : IntKind.i64.wrap (512 - ((L : Nat) : Int)) = ((k : Nat) : Int)) (hr : Hid (dgl r 0 = r)) (hr15 : r ≤ 15)
    (HZ : Hid (∀ w, (Op.equalIn 10000 24 (.agg #[.int .u64 (dgl (d) 0 : Nat), .int .u64 (dgl (d) 1 : Nat), .int .u64 (dgl (d) 2 : Nat), .int .u64 (dgl (d) 3 : Nat), .int .u64 (dgl (d) 4 : Nat), .int .u64 (dgl (d) 5 : Nat), .int .u64 (dgl (d) 6 : Nat), .int .u64 (dgl (d) 7 : Nat)]) (.agg #[.int .u64 0, .int .u64 0, .int .u64 0, .int .u64 0, .int .u64 0, .int .u64 0, .int .u64 0, .int .u64 0])).run Tryd.prog w = .ok false w))
    (HLN : Hid (∀ w, Calls Tryd.prog 44 #[.agg #[.int .u64 (dgl (d) 0 : Nat), .int .u64 (dgl (d) 1 : Nat), .int .u64 (dgl (d) 2 : Nat), .int .u64 (dgl (d) 3 : Nat), .int .u64 (dgl (d) 4 : Nat), .int .u64 (dgl (d) 5 : Nat), .int .u64 (dgl (d) 6 : Nat), .int .u64 (dgl (d) 7 : Nat)]] w fun e w' => e = .returned (.int .i64 ((L : Nat) : Int)) ∧ Below w.heap.size w w'))
    (HSH : Hid (∀ w, Calls Tryd.prog 29 #[.agg #[.int .u64 (dgl (d) 0 : Nat), .int .u64 (dgl (d) 1 : Nat), .int .u64 (dgl (d) 2 : Nat), .int .u64 (dgl (d) 3 : Nat), .int .u64 (dgl (d) 4 : Nat), .int .u64 (dgl (d) 5 : Nat), .int .u64 (dgl (d) 6 : Nat), .int .u64 (dgl (d) 7 : Nat)], .int .i64 ((k : Nat) : Int)] w fun e w' => e = .returned (.agg #[.int .u64 (dgl (X) 0 : Nat), .int .u64 (dgl (X) 1 : Nat), .int .u64 (dgl (X) 2 : Nat), .int .u64 (dgl (X) 3 : Nat), .int .u64 (dgl (X) 4 : Nat), .int .u64 (dgl (X) 5 : Nat), .int .u64 (dgl (X) 6 : Nat), .int .u64 (dgl (X) 7 : Nat)]) ∧ Below w.heap.size w w'))
    (HSR : Hid (∀ w, Calls Tryd.prog 34 #[.agg #[.int .u64 (dgl (X) 0 : Nat), .int .u64 (dgl (X) 1 : Nat), .int .u64 (dgl (X) 2 : Nat), .int .u64 (dgl (X) 3 : Nat), .int .u64 (dgl (X) 4 : Nat), .int .u64 (dgl (X) 5 : Nat), .int .u64 (dgl (X) 6 : Nat), .int .u64 (dgl (X) 7 : Nat)], .int .i64 508] w fun e w' => e = .returned (.tuple #[.agg #[.int .u64 (dgl (r) 0 : Nat), .int .u64 (dgl (r) 1 : Nat), .int .u64 (dgl (r) 2 : Nat), .int .u64 (dgl (r) 3 : Nat), .int .u64 (dgl (r) 4 : Nat), .int .u64 (dgl (r) 5 : Nat), .int .u64 (dgl (r) 6 : Nat), .int .u64 (dgl (r) 7 : Nat)], .bool ov]) ∧ Below w.heap.size w w'))
    (HLW : Hid (∀ w, Calls Tryd.prog 80 #[.agg #[.int .u64 (dgl (r) 0 : Nat), .int .u64 (dgl (r) 1 : Nat), .int .u64 (dgl (r) 2 : Nat), .int .u64 (dgl (r) 3 : Nat), .int .u64 (dgl (r) 4 : Nat), .int .u64 (dgl (r) 5 : Nat), .int .u64 (dgl (r) 6 : Nat), .int .u64 (dgl (r) 7 : Nat)]] w fun e w' => e = .returned (.agg #[.int .u64 (dgl r 1 : Nat), .int .u64 (dgl r 0 : Nat)]) ∧ Below w.heap.size w w')) (w : World) :
    Calls Tryd.prog 58 #[.agg #[.int .u64 (dgl (d) 0 : Nat), .int .u64 (dgl (d) 1 : Nat), .int .u64 (dgl (d) 2 : Nat), .int .u64 (dgl (d) 3 : Nat), .int .u64 (dgl (d) 4 : Nat), .int .u64 (dgl (d) 5 : Nat), .int .u64 (dgl (d) 6 : Nat), .int .u64 (dgl (d) 7 : Nat)]] w fun e w' => e = .returned (.tuple #[.int .i64 ((r : Nat) : Int), .bool true]) ∧ Below w.heap.size w w' := by
  have HS : Hid (LiesF (w.alloc (.cells #[.int .u64 (dgl (d) 0 : Nat), .int .u64 (dgl (d) 1 : Nat), .int .u64 (dgl (d) 2 : Nat), .int .u64 (dgl (d) 3 : Nat), .int .u64 (dgl (d) 4 : Nat), .int .u64 (dgl (d) 5 : Nat), .int .u64 (dgl (d) 6 : Nat), .int .u64 (dgl (d) 7 : Nat)] 24)) w.heap.size (dgl d) ∧ Below w.heap.size w (w.alloc (.cells #[.int .u64 (dgl (d) 0 : Nat), .int .u64 (dgl (d) 1 : Nat), .int .u64 (dgl (d) 2 : Nat), .int .u64 (dgl (d) 3 : Nat), .int .u64 (dgl (d) 4 : Nat), .int .u64 (dgl (d) 5 : Nat), .int .u64 (dgl (d) 6 : Nat), .int .u64 (dgl (d) 7 : Nat)] 24)) ∧ w.heap.size + 1 ≤ (w.alloc (.cells #[.int .u64 (dgl (d) 0 : Nat), .int .u64 (dgl (d) 1 : Nat), .int .u64 (dgl (d) 2 : Nat), .int .u64 (dgl (d) 3 : Nat), .int .u64 (dgl (d) 4 : Nat), .int .u64 (dgl (d) 5 : Nat), .int .u64 (dgl (d) 6 : Nat), .int .u64 (dgl (d) 7 : Nat)] 24)).heap.size) := ⟨liesF_new w (dgl d) _, belowT_allocs w _, by simp⟩
  have hz := HZ.out
  have hri : IntKind.i64.wrap ((dgl r 0 : Nat) : Int) = ((dgl r 0 : Nat) : Int) := by rw [hr.out, IntKind.wrap_i64]; omega
  go_enter Tryd.func58, Tryd.ntmps58
  go_upto_region 3 with fail
  refine wp_gen (fun W => LiesF W w.heap.size (dgl d) ∧ Below w.heap.size w W ∧ w.heap.size + 1 ≤ W.heap.size) HS.out ?_
  clear HS hz
  rintro W1 h1
  refine wp_region_storeK 12 [10] [10, 11, 12, 13, 14, 15, 9, 16, 17, 4, 5] (fun bs => [(10, .val (.agg #[.int .u64 (dgl (d) 0 : Nat), .int .u64 (dgl (d) 1 : Nat), .int .u64 (dgl (d) 2 : Nat), .int .u64 (dgl (d) 3 : Nat), .int .u64 (dgl (d) 4 : Nat), .int .u64 (dgl (d) 5 : Nat), .int .u64 (dgl (d) 6 : Nat), .int .u64 (dgl (d) 7 : Nat)])), (11, .val (.agg #[.int .u64 (dgl (d) 0 : Nat), .int .u64 (dgl (d) 1 : Nat), .int .u64 (dgl (d) 2 : Nat), .int .u64 (dgl (d) 3 : Nat), .int .u64 (dgl (d) 4 : Nat), .int .u64 (dgl (d) 5 : Nat), .int .u64 (dgl (d) 6 : Nat), .int .u64 (dgl (d) 7 : Nat)])), (12, .val (.int .i64 ((L : Nat) : Int))), (13, .val (.int .i64 ((k : Nat) : Int))), (14, .val (.agg #[.int .u64 (dgl (X) 0 : Nat), .int .u64 (dgl (X) 1 : Nat), .int .u64 (dgl (X) 2 : Nat), .int .u64 (dgl (X) 3 : Nat), .int .u64 (dgl (X) 4 : Nat), .int .u64 (dgl (X) 5 : Nat), .int .u64 (dgl (X) 6 : Nat), .int .u64 (dgl (X) 7 : Nat)])), (15, .val (.tuple #[.agg #[.int .u64 (dgl (r) 0 : Nat), .int .u64 (dgl (r) 1 : Nat), .int .u64 (dgl (r) 2 : Nat), .int .u64 (dgl (r) 3 : Nat), .int .u64 (dgl (r) 4 : Nat), .int .u64 (dgl (r) 5 : Nat), .int .u64 (dgl (r) 6 : Nat), .int .u64 (dgl (r) 7 : Nat)], .bool ov])), (9, .val (.tuple #[.agg #[.int .u64 (dgl (r) 0 : Nat), .int .u64 (dgl (r) 1 : Nat), .int .u64 (dgl (r) 2 : Nat), .int .u64 (dgl (r) 3 : Nat), .int .u64 (dgl (r) 4 : Nat), .int .u64 (dgl (r) 5 : Nat), .int .u64 (dgl (r) 6 : Nat), .int .u64 (dgl (r) 7 : Nat)], .bool ov])), (16, .val (.agg #[.int .u64 (dgl (r) 0 : Nat), .int .u64 (dgl (r) 1 : Nat), .int .u64 (dgl (r) 2 : Nat), .int .u64 (dgl (r) 3 : Nat), .int .u64 (dgl (r) 4 : Nat), .int .u64 (dgl (r) 5 : Nat), .int .u64 (dgl (r) 6 : Nat), .int .u64 (dgl (r) 7 : Nat)])), (17, .val (.bool ov)), (4, bif bs.headD false then SlotIs.box (w.heap.size + 1) (dgl r) else SlotIs.box (w.heap.size + 1) (fun _ => 0)), (5, .val (.bool ov))])
    (fun _ W => LiesF W w.heap.size (dgl d) ∧ Below w.heap.size w W ∧ w.heap.size + 1 ≤ W.heap.size) (fun bs => rfl) mixedOk (by kernel_rfl) (by kernel_rfl) (by kernel_rfl) (⟨h1.1.below (Below.refl _ _).drew, h1.2.1.trans ((Below.refl _ _).drew.mono h1.2.1.size), h1.2.2⟩) (fun bs W W' h hb => ⟨h.1.below hb, h.2.1.trans (hb.mono h.2.1.size), Nat.le_trans h.2.2 hb.size⟩) ?_ ?_
  · refine kSt rfl (fun φ hφ => gStep_run rfl ?_) ?_
    · intro ρ W hC hc hf hL
      have e1 : ρ (.tmp 1) = .pointer (some ⟨w.heap.size, 0, none⟩) := hL 1 (by decide +kernel)
      have hl := hC.1.1
      simp [go_sem, hc, hf, e1, hl]
      exact ⟨Below.refl _ _, rfl⟩
    refine kSt rfl (fun φ hφ => gStep_run rfl ?_) ?_
    · intro ρ W hC hc hf hL
      have e1 : ρ (.tmp 1) = .pointer (some ⟨w.heap.size, 0, none⟩) := hL 1 (by decide +kernel)
      have hl := hC.1.1
      simp [go_sem, hc, hf, e1, hl]
      exact ⟨Below.refl _ _, rfl⟩
    refine kSt rfl (fun φ hφ => gStep_run rfl ?_) ?_
    · intro ρ W hC hc hf hL
      have e11 : ρ (.tmp 11) = .agg #[.int .u64 (dgl (d) 0 : Nat), .int .u64 (dgl (d) 1 : Nat), .int .u64 (dgl (d) 2 : Nat), .int .u64 (dgl (d) 3 : Nat), .int .u64 (dgl (d) 4 : Nat), .int .u64 (dgl (d) 5 : Nat), .int .u64 (dgl (d) 6 : Nat), .int .u64 (dgl (d) 7 : Nat)] := hL 11 (by decide +kernel)
      simp [go_sem, hc, hf, e11]
      refine (HLN.out W).mono ?_
      rintro e w' ⟨rfl, hb⟩
      exact ⟨_, rfl, by first | exact hb | (subst hb; exact Below.refl _ _), rfl⟩
    refine kSt rfl (fun φ hφ => gStep_run rfl ?_) ?_
    · intro ρ W hC hc hf hL
      have e12 : ρ (.tmp 12) = .int .i64 ((L : Nat) : Int) := hL 12 (by decide +kernel)
      simp [go_sem, hc, hf, e12, hwk]
      exact ⟨Below.refl _ _, rfl⟩
    refine kSt rfl (fun φ hφ => gStep_run rfl ?_) ?_
    · intro ρ W hC hc hf hL
      have e10 : ρ (.tmp 10) = .agg #[.int .u64 (dgl (d) 0 : Nat), .int .u64 (dgl (d) 1 : Nat), .int .u64 (dgl (d) 2 : Nat), .int .u64 (dgl (d) 3 : Nat), .int .u64 (dgl (d) 4 : Nat), .int .u64 (dgl (d) 5 : Nat), .int .u64 (dgl (d) 6 : Nat), .int .u64 (dgl (d) 7 : Nat)] := hL 10 (by decide +kernel)
      have e13 : ρ (.tmp 13) = .int .i64 ((k : Nat) : Int) := hL 13 (by decide +kernel)
      simp [go_sem, hc, hf, e10, e13]
      refine (HSH.out W).mono ?_
      rintro e w' ⟨rfl, hb⟩
      exact ⟨_, rfl, by first | exact hb | (subst hb; exact Below.refl _ _), rfl⟩
    refine kSt rfl (fun φ hφ => gStep_run rfl ?_) ?_
    · intro ρ W hC hc hf hL
      have e14 : ρ (.tmp 14) = .agg #[.int .u64 (dgl (X) 0 : Nat), .int .u64 (dgl (X) 1 : Nat), .int .u64 (dgl (X) 2 : Nat), .int .u64 (dgl (X) 3 : Nat), .int .u64 (dgl (X) 4 : Nat), .int .u64 (dgl (X) 5 : Nat), .int .u64 (dgl (X) 6 : Nat), .int .u64 (dgl (X) 7 : Nat)] := hL 14 (by decide +kernel)
      simp [go_sem, hc, hf, e14]
      refine (HSR.out W).mono ?_
      rintro e w' ⟨rfl, hb⟩
      exact ⟨_, rfl, by first | exact hb | (subst hb; exact Below.refl _ _), rfl⟩
    refine kSt rfl (fun φ hφ => gStep_run rfl (gRun_move 15 9 (.inl rfl) rfl (by decide +kernel) (fun v w h => h))) ?_
    refine kSt rfl (fun φ hφ => gStep_run rfl ?_) ?_
    · intro ρ W hC hc hf hL
      have e9 : ρ (.tmp 9) = .tuple #[.agg #[.int .u64 (dgl (r) 0 : Nat), .int .u64 (dgl (r) 1 : Nat), .int .u64 (dgl (r) 2 : Nat), .int .u64 (dgl (r) 3 : Nat), .int .u64 (dgl (r) 4 : Nat), .int .u64 (dgl (r) 5 : Nat), .int .u64 (dgl (r) 6 : Nat), .int .u64 (dgl (r) 7 : Nat)], .bool ov] := hL 9 (by decide +kernel)
      simp [go_sem, hc, hf, e9]
      exact ⟨Below.refl _ _, rfl⟩
    refine kSt rfl (fun φ hφ => gStep_run rfl ?_) ?_
    · intro ρ W hC hc hf hL
      have e9 : ρ (.tmp 9) = .tuple #[.agg #[.int .u64 (dgl (r) 0 : Nat), .int .u64 (dgl (r) 1 : Nat), .int .u64 (dgl (r) 2 : Nat), .int .u64 (dgl (r) 3 : Nat), .int .u64 (dgl (r) 4 : Nat), .int .u64 (dgl (r) 5 : Nat), .int .u64 (dgl (r) 6 : Nat), .int .u64 (dgl (r) 7 : Nat)], .bool ov] := hL 9 (by decide +kernel)
      simp [go_sem, hc, hf, e9]
      exact ⟨Below.refl _ _, rfl⟩
    refine kSt rfl (fun φ hφ => gStep_run rfl ?_) ?_
    · intro ρ W hC hc hf hL
      have hφ0 : φ 10 = false := hφ 10 (by simp) (by kernel_rfl)
      simp [go_sem, hc, hf]
      refine ⟨belowT_allocs _ _, ?_⟩
      show (bif φ 10 then SlotIs.box (w.heap.size + 1) (dgl r) else SlotIs.box (w.heap.size + 1) (fun _ => 0)).R _ _
      rw [hφ0]
      exact ⟨_, rfl, hC.2.2, liesF_new _ (fun _ => 0) _, fun i => by simp [go_sem]⟩
    refine kStS rfl ⟨rfl, rfl, ?_⟩ ?_
    · intro φ ρ W hφ hC hc hL
      have b4 := hL 4 (by decide +kernel)
      have e16 : ρ (.tmp 16) = .agg #[.int .u64 (dgl (r) 0 : Nat), .int .u64 (dgl (r) 1 : Nat), .int .u64 (dgl (r) 2 : Nat), .int .u64 (dgl (r) 3 : Nat), .int .u64 (dgl (r) 4 : Nat), .int .u64 (dgl (r) 5 : Nat), .int .u64 (dgl (r) 6 : Nat), .int .u64 (dgl (r) 7 : Nat)] := hL 16 (by decide +kernel)
      have bx : (bif φ 10 then SlotIs.box (w.heap.size + 1) (dgl r) else SlotIs.box (w.heap.size + 1) (fun _ => 0)).R (ρ (.tmp 4)) W := hL 4 (by decide +kernel)
      rw [hφ] at bx
      obtain ⟨px, ex, qx, lx, zx⟩ := bx
      have hz := lx.1
      have hzl := lx.2
      refine gUpon_of ((((((((W.setCell ⟨px, 0, none⟩ (.int .u64 (dgl r 0 : Nat))).setCell ⟨px, 1, none⟩ (.int .u64 (dgl r 1 : Nat))).setCell ⟨px, 2, none⟩ (.int .u64 (dgl r 2 : Nat))).setCell ⟨px, 3, none⟩ (.int .u64 (dgl r 3 : Nat))).setCell ⟨px, 4, none⟩ (.int .u64 (dgl r 4 : Nat))).setCell ⟨px, 5, none⟩ (.int .u64 (dgl r 5 : Nat))).setCell ⟨px, 6, none⟩ (.int .u64 (dgl r 6 : Nat))).setCell ⟨px, 7, none⟩ (.int .u64 (dgl r 7 : Nat))) ?_ (fun _ => ?_)
      · simp [go_sem, hc, e16, ex, hz, hzl, zx, gUpon]
      have hs8 := below_set8 (Below.refl (w.heap.size + 1) W) px qx (.int .u64 (dgl r 0 : Nat)) (.int .u64 (dgl r 1 : Nat)) (.int .u64 (dgl r 2 : Nat)) (.int .u64 (dgl r 3 : Nat)) (.int .u64 (dgl r 4 : Nat)) (.int .u64 (dgl r 5 : Nat)) (.int .u64 (dgl r 6 : Nat)) (.int .u64 (dgl r 7 : Nat))
      refine ⟨⟨lies_box hC.1 hs8 (by omega), hC.2.1.trans (hs8.mono (by omega)), Nat.le_trans hC.2.2 hs8.size⟩, fun t => ?_⟩
      refine (tbl_imp rfl (fun _ => val_imp) (tbl_imp rfl (fun _ => val_imp) (tbl_imp rfl (fun _ => val_imp) (tbl_imp rfl (fun _ => val_imp) (tbl_imp rfl (fun _ => val_imp) (tbl_imp rfl (fun _ => val_imp) (tbl_imp rfl (fun _ => val_imp) (tbl_imp rfl (fun _ => val_imp) (tbl_imp rfl (fun _ => val_imp) (tbl_imp rfl (fun ht h => ?_) (tbl_imp rfl (fun _ => val_imp) tbl_nil_imp)))))))))))
      · subst ht
        show (bif (φ 10 || true) then SlotIs.box (w.heap.size + 1) (dgl r) else SlotIs.box (w.heap.size + 1) (fun _ => 0)).R _ _
        rw [Bool.or_true]
        exact ⟨px, ex, qx, set8_same W px (dgl r) (fun _ => 0) lx, fun i => by simpa [go_sem] using zx i⟩
    refine kSt rfl (fun φ hφ => gStep_run rfl (gRun_move 17 5 (.inr rfl) rfl (by decide +kernel) (fun v w h => h))) ?_
    exact kSt0
  · intro W hC
    refine gFi 10 rfl ?_
    rintro _ rfl
    refine gFi 11 rfl ?_
    rintro _ rfl
    refine gFi 12 rfl ?_
    rintro _ rfl
    refine gFi 13 rfl ?_
    rintro _ rfl
    refine gFi 14 rfl ?_
    rintro _ rfl
    refine gFi 15 rfl ?_
    rintro _ rfl
    refine gFi 9 rfl ?_
    rintro _ rfl
    refine gFi 16 rfl ?_
    rintro _ rfl
    refine gFi 17 rfl ?_
    rintro _ rfl
    refine gFi 4 rfl ?_
    rintro _ ⟨p4, rfl, q4, l4, z4⟩
    refine gFiN rfl ?_
    refine gFi 5 rfl ?_
    rintro _ rfl
    refine gFi0 ?_
    simp only [List.drop_succ_cons, List.drop_zero, Act.put, List.setIfInBounds_toArray, List.set_cons_succ, List.set_cons_zero]
    have HS := hide (show LiesF W p4 (dgl r) ∧ Below w.heap.size w W from ⟨l4, hC.2.1⟩)
    have hl4 := l4.1
    have hfd := fun w => fld_loT (.int .u64 (dgl r 1 : Nat)) (.int .u64 (dgl r 0 : Nat)) w
    clear hC l4 z4 q4 h1
    go_wp2_with fail
    refine (HLW.out _).mono ?_
    rintro e w5 ⟨rfl, hb5⟩
    have HB := hide (HS.out.2.trans (hb5.mono HS.out.2.size))
    clear HS hl4 hb5
    go_wp2
    exact bodyPost_ret (v := .tuple #[.int .i64 ((dgl r 0 : Nat) : Int), .bool true]) (by simp [results, Tryd.results58, go_sem]) rfl ⟨by rw [hr.out], HB.out⟩
    

/-- A divisor's row. -/
def rwN (d : Nat) : Nat := d * 2 ^ (512 - Go.bitLen d) / 2 ^ 508
theorem len512 {d : Nat} (h : d < QQ) : Go.bitLen d ≤ 512 := by
  have h2 : ∀ N, d < 2 ^ N → Go.bitLen d ≤ N := fun N hN => by
    rcases Nat.lt_or_ge N (Go.bitLen d) with h1 | h1
    · have hd0 : d ≠ 0 := by
        rintro rfl
        exact absurd h1 (by unfold Go.bitLen; simp)
      have h3 := (bitLen_top d hd0).2.1
      have h4 : 2 ^ N ≤ 2 ^ (Go.bitLen d - 1) := Nat.pow_le_pow_right (by decide) (by omega)
      omega
    · exact h1
  exact h2 512 (by have : QQ = 2 ^ 512 := by decide +kernel
                   rw [← this]; exact h)
theorem roww_all {d : Nat} (h : d < QQ) (h0 : d ≠ 0) : d * 2 ^ (512 - Go.bitLen d) < QQ ∧ rwN d = d * 2 ^ 4 / 2 ^ Go.bitLen d ∧ 8 ≤ rwN d ∧ rwN d ≤ 15 := by
  have ht := bitLen_top d h0
  have hl := len512 h
  have key : ∀ M N, N = M + 4 → Go.bitLen d ≤ N → d * 2 ^ (N - Go.bitLen d) < 2 ^ N ∧ d * 2 ^ (N - Go.bitLen d) / 2 ^ M = d * 2 ^ 4 / 2 ^ Go.bitLen d ∧ 8 ≤ d * 2 ^ (N - Go.bitLen d) / 2 ^ M ∧ d * 2 ^ (N - Go.bitLen d) / 2 ^ M ≤ 15 := fun M N hN hb => by
    subst hN
    exact row_num d (Go.bitLen d) M ht.1 ht.2.1 ht.2.2 hb
  have := key 508 512 rfl hl
  have e : QQ = 2 ^ 512 := by decide +kernel
  rw [e]
  exact this
theorem rowC_yes (d : Nat) (hd : d < QQ) (h0 : d ≠ 0) (w : World) :
    Calls Tryd.prog 58 #[.agg #[.int .u64 (dgl (d) 0 : Nat), .int .u64 (dgl (d) 1 : Nat), .int .u64 (dgl (d) 2 : Nat), .int .u64 (dgl (d) 3 : Nat), .int .u64 (dgl (d) 4 : Nat), .int .u64 (dgl (d) 5 : Nat), .int .u64 (dgl (d) 6 : Nat), .int .u64 (dgl (d) 7 : Nat)]] w fun e w' => e = .returned (.tuple #[.int .i64 ((rwN d : Nat) : Int), .bool true]) ∧ Below w.heap.size w w' := by
  have hl := len512 hd
  have hr := roww_all hd h0
  have hsh := fun w => wideShl_any d (((512 - Go.bitLen d : Nat)) : Int) hd w
  rw [show roomI (((512 - Go.bitLen d : Nat)) : Int) = (((512 - Go.bitLen d : Nat)) : Int) by unfold roomI; omega, sh_up] at hsh
  have hsr := fun w => wideShr_any (d * 2 ^ (512 - Go.bitLen d)) 508 508 (by decide) hr.1 w
  refine rowC_walk d (Go.bitLen d) (512 - Go.bitLen d) (d * 2 ^ (512 - Go.bitLen d)) (rwN d) _ (by rw [IntKind.wrap_i64]; omega) ?_ hr.2.2.2 (fun w => ?_) (fun w => wideLen_any d hd w) hsh hsr (fun w => wideLow_any (dgl (rwN d)) w) w
  · exact hide (by unfold dgl; rw [Nat.pow_zero, Nat.div_one]; exact Nat.mod_eq_of_lt (by have := hr.2.2.2; omega))
  · have h := wide_eqz hd w
    rw [decide_eq_false h0] at h
    exact h
end Go.Proofs.YtbngaajhdaciaaaDoor

/- A row of digits, digit by digit. -/
set_option linter.unusedVariables false
set_option linter.unusedSimpArgs false
set_option maxRecDepth 8000
namespace Go.Proofs.YtbngaajhdaciaaaDoor
open Go.RowKit Plain

theorem rd_seq {w : World} {ao : Option Addr} {ca k : Nat} {f : Nat → Int} (h : Rd mkZ w (.slice ao k ca) (seqL f k)) (h0 : 0 < k) (hb : ∀ i, i < k → -9223372036854775808 ≤ f i) :
    ∃ b off, ao = some ⟨b, off, none⟩ ∧ b < w.heap.size ∧ ∀ i, i < k → w.cell? ⟨b, off + i, none⟩ = some (.int .i64 (f i)) := by
  obtain ⟨bo, ca2, he, h1, h2, h3⟩ := h
  rw [seqL_len] at he h3
  obtain ⟨rfl, rfl⟩ : ao = bo ∧ ca = ca2 := by
    simp only [Value.slice.injEq] at he
    exact ⟨he.1, he.2.2⟩
  rcases h3 with h3 | ⟨b, off, h4, h5, h6⟩
  · omega
  · refine ⟨b, off, h4, h5, fun i hi => ?_⟩
    have h7 := h6 i hi
    rw [seqL_get f k i hi, mkZ_nof (hb i hi)] at h7
    exact h7
/-- The row is a slice of so many ints. -/
theorem rd_slice {w : World} {v : Value} {k : Nat} {f : Nat → Int} (h : Rd mkZ w v (seqL f k)) : ∃ ao ca, v = .slice ao k ca := by
  obtain ⟨ao, ca, rfl, -⟩ := h
  exact ⟨ao, ca, by rw [seqL_len]⟩
theorem u8_natS {a : Int} (h : (Lit.int .u8 a).wf = true) : ∃ x : Nat, a = (x : Int) ∧ x < 256 := by
  simp only [Lit.wf, Bool.and_eq_true, decide_eq_true_eq] at h
  have hmin : IntKind.u8.min = 0 := rfl
  have hmax : IntKind.u8.max = 255 := rfl
  exact ⟨a.toNat, by omega, by omega⟩
end Go.Proofs.YtbngaajhdaciaaaDoor

