/- Contracts and laws: WideI, WideJ, WideK, WideL. -/
import Derived.Test.YteocibahclpegaaPartAJ
import Derived.ChangeKeysEq
import Derived.Test.YteocibahclpegaaPartAH
import Derived.Deep.DeepCutAuto
/- radicandlaw02.awake. -/
set_option linter.unusedVariables false
set_option linter.unusedSimpArgs false
set_option maxRecDepth 8000
namespace Go.Proofs.Yteocibahclpegaa
open Go.RowKit Plain

/-- What `==` says of two Wides. -/
theorem wide_equal (f g : Nat → Nat) (w : World) :
    (Op.equalIn 10000 32 (.agg #[.int .u64 (f 0 : Nat), .int .u64 (f 1 : Nat), .int .u64 (f 2 : Nat), .int .u64 (f 3 : Nat), .int .u64 (f 4 : Nat), .int .u64 (f 5 : Nat), .int .u64 (f 6 : Nat), .int .u64 (f 7 : Nat)]) (.agg #[.int .u64 (g 0 : Nat), .int .u64 (g 1 : Nat), .int .u64 (g 2 : Nat), .int .u64 (g 3 : Nat), .int .u64 (g 4 : Nat), .int .u64 (g 5 : Nat), .int .u64 (g 6 : Nat), .int .u64 (g 7 : Nat)])).run Try.prog w
      = .ok (f 0 == g 0 && (f 1 == g 1 && (f 2 == g 2 && (f 3 == g 3 && (f 4 == g 4 && (f 5 == g 5 && (f 6 == g 6 && f 7 == g 7))))))) w := by
  have u3 := Try.underlying24
  have a3 := Try.isAgg24
  obtain ⟨inf, hi⟩ : ∃ i, Try.prog.info? 24 = some i := Option.isSome_iff_exists.1 (by kernel_rfl)
  rw [show (10000 : Nat) = 9999 + 1 from rfl, run_equalIn_array w 9999 _ _ Try.underlying32 hi]
  have hc : Try.prog.cellsOf 24 = 1 := by kernel_rfl
  rw [hc]
  simp only [List.range_succ, List.range_zero, List.nil_append, List.cons_append, Op.eqItems]
  go_simp
  simp only [Int.ofNat_inj]
  by_cases h0 : f 0 = g 0
  · by_cases h1 : f 1 = g 1
    · by_cases h2 : f 2 = g 2
      · by_cases h3 : f 3 = g 3
        · by_cases h4 : f 4 = g 4
          · by_cases h5 : f 5 = g 5
            · by_cases h6 : f 6 = g 6
              · by_cases h7 : f 7 = g 7 <;> simp [h0, h1, h2, h3, h4, h5, h6, h7]
              · simp [h0, h1, h2, h3, h4, h5, h6]
            · simp [h0, h1, h2, h3, h4, h5]
          · simp [h0, h1, h2, h3, h4]
        · simp [h0, h1, h2, h3]
      · simp [h0, h1, h2]
    · simp [h0, h1]
  · simp [h0]

@[go_sem] theorem wide_same (x : Nat) (w : World) :
    (Op.equalIn 10000 32 (.agg #[.int .u64 (dgl (x) 0 : Nat), .int .u64 (dgl (x) 1 : Nat), .int .u64 (dgl (x) 2 : Nat), .int .u64 (dgl (x) 3 : Nat), .int .u64 (dgl (x) 4 : Nat), .int .u64 (dgl (x) 5 : Nat), .int .u64 (dgl (x) 6 : Nat), .int .u64 (dgl (x) 7 : Nat)]) (.agg #[.int .u64 (dgl (x) 0 : Nat), .int .u64 (dgl (x) 1 : Nat), .int .u64 (dgl (x) 2 : Nat), .int .u64 (dgl (x) 3 : Nat), .int .u64 (dgl (x) 4 : Nat), .int .u64 (dgl (x) 5 : Nat), .int .u64 (dgl (x) 6 : Nat), .int .u64 (dgl (x) 7 : Nat)])).run Try.prog w = .ok true w := by
  have := wide_equal (dgl x) (dgl x) w
  simpa using this

end Go.Proofs.Yteocibahclpegaa

/- Contracts: radicandref02.Wide. -/
set_option linter.unusedVariables false
set_option linter.unusedSimpArgs false
set_option maxRecDepth 8000
namespace Go.Proofs.Yteocibahclpegaa
open Go.RowKit Plain

theorem wide_step {β : Nat} (n q r j : Nat) (hβ : 0 < β) (hr : r < 2) :
    n % β ^ (2 * q + r + 1) / (β * β) ^ j % (β * β) = n % β ^ (2 * q + r) / (β * β) ^ j % (β * β) + if j = q then β ^ r * (n / β ^ (2 * q + r) % β) else 0 := by
  have hQ : 0 < β * β := Nat.mul_pos hβ hβ
  have e : β ^ (2 * q + r) = (β * β) ^ q * β ^ r := by rw [Nat.pow_add, Nat.pow_mul, Nat.pow_two]
  have hR0 : 0 < β ^ r := Nat.pow_pos hβ
  have hR : β ^ r ≤ β := by
    rcases (show r = 0 ∨ r = 1 by omega) with rfl | rfl
    · rw [Nat.pow_zero]; exact hβ
    · rw [Nat.pow_one]; exact Nat.le_refl _
  rw [Nat.pow_succ, Nat.mod_mul (x := n) (b := β), e]
  have hx := Nat.mod_lt n (Nat.mul_pos (Nat.pow_pos (n := q) hQ) hR0)
  have hd := Nat.mod_lt (n / ((β * β) ^ q * β ^ r)) hβ
  generalize n % ((β * β) ^ q * β ^ r) = x at *
  generalize n / ((β * β) ^ q * β ^ r) % β = d at *
  generalize β ^ r = R at *
  have hRd : R * d + R ≤ β * β := by
    have := Nat.mul_le_mul hR (show d + 1 ≤ β from hd)
    rw [Nat.mul_succ] at this; exact this
  rcases Nat.lt_trichotomy j q with h | h | h
  · rw [if_neg (by omega)]
    obtain ⟨m, rfl⟩ : ∃ m, q = j + 1 + m := ⟨q - j - 1, by omega⟩
    have e2 : (β * β) ^ (j + 1 + m) * R * d = (β * β) ^ j * (β * β * ((β * β) ^ m * R * d)) := by
      rw [Nat.pow_add, Nat.pow_succ]; simp only [Nat.mul_assoc]
    rw [e2, Nat.add_mul_div_left _ _ (Nat.pow_pos hQ), Nat.add_mul_mod_self_left, Nat.add_zero]
  · subst h
    rw [if_pos rfl, Nat.mul_assoc, Nat.add_mul_div_left _ _ (Nat.pow_pos hQ)]
    have hlt : x / (β * β) ^ j < R := Nat.div_lt_of_lt_mul hx
    rw [Nat.mod_eq_of_lt (by omega), Nat.mod_eq_of_lt (by omega)]
  · rw [if_neg (by omega), Nat.add_zero]
    have h1 : (β * β) ^ q * (β * β) ≤ (β * β) ^ j := by rw [← Nat.pow_succ]; exact Nat.pow_le_pow_right hQ h
    have h2 := Nat.mul_le_mul_left ((β * β) ^ q) hRd
    rw [Nat.mul_add, ← Nat.mul_assoc] at h2
    rw [Nat.div_eq_of_lt (show x + (β * β) ^ q * R * d < (β * β) ^ j by omega), Nat.div_eq_of_lt (show x < (β * β) ^ j by omega)]

theorem wide_room {β : Nat} (n q r : Nat) (hβ : 0 < β) (hr : r < 2) :
    n % β ^ (2 * q + r) / (β * β) ^ q % (β * β) + β ^ r * (n / β ^ (2 * q + r) % β) < β * β := by
  have h := wide_step n q r q hβ hr
  rw [if_pos rfl] at h
  rw [← h]
  exact Nat.mod_lt _ (Nat.mul_pos hβ hβ)

theorem wide_end {Q : Nat} (hQ : 0 < Q) (n K j : Nat) (hj : j < K) : n % Q ^ K / Q ^ j % Q = n / Q ^ j % Q := by
  obtain ⟨m, rfl⟩ : ∃ m, K = j + (m + 1) := ⟨K - j - 1, by omega⟩
  rw [Nat.pow_add, Nat.mod_mul_right_div_self, Nat.mod_mod_of_dvd _ ⟨Q ^ m, by rw [Nat.pow_succ, Nat.mul_comm]⟩]

def WInv (n k : Nat) (o : List Nat) : Prop := o.length = 8 ∧ ∀ j, j < 8 → dg o j = dgl (n % BB ^ k) j

theorem wInv_step {n k : Nat} {o : List Nat} (h : WInv n k o) (hk : k < 16) :
    dg o (k / 2) + BB ^ (k % 2) * dgt n k < 18446744073709551616 ∧ WInv n (k + 1) (o.set (k / 2) (dg o (k / 2) + BB ^ (k % 2) * dgt n k)) := by
  obtain ⟨h1, h2⟩ := h
  have hs := fun j => wide_step (β := BB) n (k / 2) (k % 2) j (by decide) (by omega)
  have hr := wide_room (β := BB) n (k / 2) (k % 2) (by decide) (by omega)
  rw [Nat.div_add_mod] at hr hs
  have eQ : BB * BB = 18446744073709551616 := by decide
  rw [eQ] at hr hs
  refine ⟨by rw [h2 _ (by omega)]; exact hr, by rw [List.length_set]; exact h1, fun j hj => ?_⟩
  rw [dg_set _ _ _ _ (by omega)]
  have hj := hs j
  unfold dgl
  rw [hj]
  split
  · rename_i e; subst e; rw [h2 _ (by omega)]; rfl
  · rw [Nat.add_zero]; exact h2 j (by omega)

theorem wInv_zero (n : Nat) : WInv n 0 (List.replicate 8 0) := by
  refine ⟨rfl, fun j hj => ?_⟩
  rw [dg_zeros]; unfold dgl
  rw [Nat.pow_zero, Nat.mod_one]; simp

theorem wInv_end {n k : Nat} {l o : List Nat} (h : WInv n k o) (hd : Dig BB l n) (hk : k = l.length ∨ k = 16) : ∀ j, j < 8 → dg o j = dgl n j := by
  intro j hj
  rw [h.2 j hj]
  rcases hk with rfl | rfl
  · rw [Nat.mod_eq_of_lt hd.1]
  · have e : BB ^ 16 = 18446744073709551616 ^ 8 := by decide
    unfold dgl
    rw [e]
    exact wide_end (by decide) n 8 j hj

theorem above_iff {n : Nat} {l : List Nat} (hd : Dig BB l n) (hn : Norm BB l n) : (16 < l.length) ↔ QQ ≤ n := by
  have e : QQ = BB ^ 16 := by decide
  rw [e]
  constructor
  · intro h
    rcases hn with hn | hn
    · omega
    · exact Nat.le_trans (Nat.pow_le_pow_right (by decide) (by omega)) hn
  · intro h
    apply Nat.lt_of_not_le
    intro hc
    exact absurd (Nat.lt_of_lt_of_le hd.1 (Nat.pow_le_pow_right (show 0 < BB by decide) hc)) (by omega)

set_option maxHeartbeats 2000000 in
theorem refWide_any (n K : Nat) (va : Value) (w : World) (ha : BigV w va n K) :
    Calls Try.prog 34 #[va] w fun e w' => e = .returned (.tuple #[.agg #[.int .u64 (dgl (n) 0 : Nat), .int .u64 (dgl (n) 1 : Nat), .int .u64 (dgl (n) 2 : Nat), .int .u64 (dgl (n) 3 : Nat), .int .u64 (dgl (n) 4 : Nat), .int .u64 (dgl (n) 5 : Nat), .int .u64 (dgl (n) 6 : Nat), .int .u64 (dgl (n) 7 : Nat)], .bool (decide (QQ ≤ n))]) ∧ Below w.heap.size w w' := by
  obtain ⟨l, ⟨ao, ca, rfl, hca, hma, hra⟩, hd, hn, -⟩ := ha
  unfold maxLen at hma
  have HN := hide hn
  have HD := hide hd
  have RA := hide hra
  clear hn hd hra
  go_enter Try.func34, Try.ntmps34
  go_wp2
  go_loopw [5] (fun i wr => ∃ (k : Nat) (o : List Nat), k ≤ l.length ∧ k ≤ 16 ∧ i = .int .i64 k ∧ Hid (WInv n k o) ∧
      wr.ownsRow w.heap.size 32 1 (.slice (some ⟨w.heap.size + 1, 0, none⟩) 8 8) 8 (o.map mk64) ∧ wr.ownsRow w.heap.size 32 1 (.slice (some ⟨w.heap.size, 0, none⟩) 8 8) 8 ((List.replicate 8 0).map mk64) ∧ Below w.heap.size w wr)
    (fun i _ => 16 - (intOf i).toNat)
  case atStart =>
    have hb : Below w.heap.size w ((w.alloc (.cells #[.int .u64 0, .int .u64 0, .int .u64 0, .int .u64 0, .int .u64 0, .int .u64 0, .int .u64 0, .int .u64 0] 32)).alloc (.cells #[.int .u64 0, .int .u64 0, .int .u64 0, .int .u64 0, .int .u64 0, .int .u64 0, .int .u64 0, .int .u64 0] 32)) :=
      Below.alloc (Below.alloc (Below.refl _ _) (Nat.le_refl _) _) (by simp) _
    refine ⟨0, List.replicate 8 0, by omega, by omega, rfl, wInv_zero n, ?_, ?_, hb⟩
    · have := World.ownsRow_lit (base := w.heap.size) (e := 32) (size := 1) (w.alloc (.cells #[.int .u64 0, .int .u64 0, .int .u64 0, .int .u64 0, .int .u64 0, .int .u64 0, .int .u64 0, .int .u64 0] 32)) #[.int .u64 0, .int .u64 0, .int .u64 0, .int .u64 0, .int .u64 0, .int .u64 0, .int .u64 0, .int .u64 0] 8 (by simp) (by simp [maxLen]) rfl
      rw [World.size_alloc] at this
      exact this
    · exact (World.ownsRow_lit (base := w.heap.size) (e := 32) (size := 1) w #[.int .u64 0, .int .u64 0, .int .u64 0, .int .u64 0, .int .u64 0, .int .u64 0, .int .u64 0, .int .u64 0] 8 (Nat.le_refl _) (by simp [maxLen]) rfl).alloc _
  case round =>
    obtain ⟨k, o, hk, hk16, rfl, ho, hV, hR, hbel⟩ := hrel
    by_cases hlt : k < l.length
    · have hj1 : (k : Int) < (l.length : Int) := by omega
      by_cases h16 : k < 16
      · have hj2 : (k : Int) < 16 := by omega
        rcases unhide RA with hc | ⟨b, off, rfl, hbl, hcell⟩
        · omega
        · have hck : wr.cell? ⟨b, off + k, none⟩ = some (.int .u32 (dgt n k : Nat)) := by
            rw [hbel.cell (p := ⟨b, off + k, none⟩) hbl, hcell k hlt, HD.out.2 k]; rfl
          clear hcell
          have hdk := dgt_lt n k
          obtain ⟨y1, y2⟩ := wInv_step ho.out h16
          have HO1 := hide ho.out.1
          clear ho
          generalize dgt n k = d at *
          have hco : wr.cell? ⟨w.heap.size + 1, k / 2, none⟩ = some (.int .u64 (dg o (k / 2) : Nat)) := owns_cell hV HO1.out (k / 2) (by omega)
          have hfo : wr.frozen? ⟨w.heap.size + 1, k / 2, none⟩ = false := hV.frozenAt _
          have hs := owns_store (mk := mk64) hV (k / 2) (dg o (k / 2) + BB ^ (k % 2) * d) hbel (by omega)
          have hR2 := hR.kept (hV.stored (k / 2) (mk64 (dg o (k / 2) + BB ^ (k % 2) * d))).2 (.inr (by simp [Value.ownBlock]))
          have hii : ((k : Int) / 2).toNat = k / 2 := by omega
          have hwi : IntKind.i64.wrap ((k : Int) / 2) = (k : Int) / 2 := by rw [IntKind.wrap_i64]; omega
          have hidx : 0 ≤ (k : Int) / 2 ∧ (k : Int) / 2 < 8 := by omega
          have HS := hide hs
          have HR2 := hide hR2
          have HY2 := hide y2
          clear hs hR2 y2 hV hR hbel
          generalize dg o (k / 2) = x at *
          have hw0 : IntKind.i64.wrap 0 = 0 := by decide
          have hw32 : IntKind.i64.wrap 32 = 32 := by decide
          have hwd : IntKind.u64.wrap (d : Int) = (d : Int) := by rw [IntKind.wrap_u64]; omega
          have hwd2 : IntKind.u64.wrap ((d : Int) * 4294967296) = (d : Int) * 4294967296 := by rw [IntKind.wrap_u64]; omega
          rcases (show k % 2 = 0 ∨ k % 2 = 1 by omega) with hm | hm
          · have hwm : (k : Int).tmod 2 = 0 := by rw [Int.tmod_eq_emod_of_nonneg (by omega)]; omega
            rw [hm, Nat.pow_zero, Nat.one_mul] at HS HR2 HY2 y1
            have hy : (x : Int) + (d : Int) < 18446744073709551616 := by omega
            go_wp2
            refine wp_region_still_tail 17 mixedOk (by kernel_rfl) ?_
            simp only [List.take_succ_cons, List.take_zero, List.drop_succ_cons, List.drop_zero]
            change wpStill _ _ wr.drew _ _ _
            repeat still_step
            refine wpStill_nil ?_
            go_wp2
            go_roundw
            case rel =>
              have hs := HS.out
              have hr2 := HR2.out
              unfold mk64 at hs hr2
              rw [Int.natCast_add] at hs hr2
              exact ⟨k + 1, _, by omega, by omega, by go_num, HY2, ownsRow_drew hs.1, ownsRow_drew hr2, hs.2.drew⟩
            case measure => simp [intOf]; omega
          · have hwm : (k : Int).tmod 2 = 1 := by rw [Int.tmod_eq_emod_of_nonneg (by omega)]; omega
            rw [hm, Nat.pow_one, Nat.mul_comm BB d] at HS HR2 HY2 y1
            unfold BB at HS HR2 HY2 y1
            have hy : (x : Int) + (4294967296 * d : Int) < 18446744073709551616 := by omega
            go_wp2
            refine wp_region_still_tail 17 mixedOk (by kernel_rfl) ?_
            simp only [List.take_succ_cons, List.take_zero, List.drop_succ_cons, List.drop_zero]
            change wpStill _ _ wr.drew _ _ _
            repeat still_step
            refine wpStill_nil ?_
            go_wp2
            go_roundw
            case rel =>
              have hs := HS.out
              have hr2 := HR2.out
              unfold mk64 at hs hr2
              rw [Int.natCast_add, Int.natCast_mul] at hs hr2
              exact ⟨k + 1, _, by omega, by omega, by go_num, HY2, ownsRow_drew hs.1, ownsRow_drew hr2, hs.2.drew⟩
            case measure => simp [intOf]; omega
      · have hj2 : ¬ (k : Int) < 16 := by omega
        have hv' := wInv_end ho.out HD.out (.inr (by omega))
        have hv : ∀ i, i < 8 → wr.cell? ⟨w.heap.size + 1, i, none⟩ = some (.int .u64 (dgl n i : Nat)) := fun i hi => by rw [owns_cell hV ho.out.1 i hi, hv' i hi]; rfl
        have hr : ∀ i, i < 8 → wr.cell? ⟨w.heap.size, i, none⟩ = some (.int .u64 (dg (List.replicate 8 0) i : Nat)) := fun i hi => owns_cell hR (by simp) i hi
        have hfr : ∀ i, wr.frozen? ⟨w.heap.size, i, none⟩ = false := fun i => hR.frozenAt i
        have hgt : decide (16 < (l.length : Int)) = decide (QQ ≤ n) := by rw [decide_eq_decide, ← above_iff HD.out HN.out]; omega
        clear ho hV hR hv'
        have HG := hide hbel
        clear hbel
        go_wp2
        have hb8 := below_set8 (Below.refl w.heap.size wr) w.heap.size (Nat.le_refl _) (.int .u64 (dgl n 0 : Nat)) (.int .u64 (dgl n 1 : Nat)) (.int .u64 (dgl n 2 : Nat)) (.int .u64 (dgl n 3 : Nat)) (.int .u64 (dgl n 4 : Nat)) (.int .u64 (dgl n 5 : Nat)) (.int .u64 (dgl n 6 : Nat)) (.int .u64 (dgl n 7 : Nat))
        exact bodyPost_ret (v := .tuple #[.agg #[.int .u64 (dgl (n) 0 : Nat), .int .u64 (dgl (n) 1 : Nat), .int .u64 (dgl (n) 2 : Nat), .int .u64 (dgl (n) 3 : Nat), .int .u64 (dgl (n) 4 : Nat), .int .u64 (dgl (n) 5 : Nat), .int .u64 (dgl (n) 6 : Nat), .int .u64 (dgl (n) 7 : Nat)], .bool (decide (QQ ≤ n))]) (by simp [results, Try.results34, go_sem, hr]) rfl ⟨rfl, HG.out.trans hb8⟩
    · have hj1 : ¬ (k : Int) < (l.length : Int) := by omega
      have hv' := wInv_end ho.out HD.out (.inl (by omega))
      have hv : ∀ i, i < 8 → wr.cell? ⟨w.heap.size + 1, i, none⟩ = some (.int .u64 (dgl n i : Nat)) := fun i hi => by rw [owns_cell hV ho.out.1 i hi, hv' i hi]; rfl
      have hr : ∀ i, i < 8 → wr.cell? ⟨w.heap.size, i, none⟩ = some (.int .u64 (dg (List.replicate 8 0) i : Nat)) := fun i hi => owns_cell hR (by simp) i hi
      have hfr : ∀ i, wr.frozen? ⟨w.heap.size, i, none⟩ = false := fun i => hR.frozenAt i
      have hgt : decide (16 < (l.length : Int)) = decide (QQ ≤ n) := by rw [decide_eq_decide, ← above_iff HD.out HN.out]; omega
      clear ho hV hR hv'
      have HG := hide hbel
      clear hbel
      go_wp2
      have hb8 := below_set8 (Below.refl w.heap.size wr) w.heap.size (Nat.le_refl _) (.int .u64 (dgl n 0 : Nat)) (.int .u64 (dgl n 1 : Nat)) (.int .u64 (dgl n 2 : Nat)) (.int .u64 (dgl n 3 : Nat)) (.int .u64 (dgl n 4 : Nat)) (.int .u64 (dgl n 5 : Nat)) (.int .u64 (dgl n 6 : Nat)) (.int .u64 (dgl n 7 : Nat))
      exact bodyPost_ret (v := .tuple #[.agg #[.int .u64 (dgl (n) 0 : Nat), .int .u64 (dgl (n) 1 : Nat), .int .u64 (dgl (n) 2 : Nat), .int .u64 (dgl (n) 3 : Nat), .int .u64 (dgl (n) 4 : Nat), .int .u64 (dgl (n) 5 : Nat), .int .u64 (dgl (n) 6 : Nat), .int .u64 (dgl (n) 7 : Nat)], .bool (decide (QQ ≤ n))]) (by simp [results, Try.results34, go_sem, hr]) rfl ⟨rfl, HG.out.trans hb8⟩

end Go.Proofs.Yteocibahclpegaa

/- Contracts: radicandref02.Big; wide.Cmp. -/
set_option linter.unusedVariables false
set_option linter.unusedSimpArgs false
set_option maxRecDepth 8000
namespace Go.Proofs.Yteocibahclpegaa
open Go.RowKit Plain

theorem big_step (a k : Nat) : a % 18446744073709551616 ^ k + dgl a k * 2 ^ (64 * k) = a % 18446744073709551616 ^ (k + 1) := by
  unfold dgl
  rw [← LLpow, Nat.pow_succ, Nat.mod_mul (x := a), Nat.mul_comm (a / _ % _)]

theorem refShl_int (n K s : Nat) (x : Int) (va : Value) (w : World) (ha : BigV w va n K) (hK : K ≤ 1000000) (hs : s ≤ 100000) (hx : x = (s : Int)) :
    Calls Try.prog 21 #[va, .int .i64 x] w fun e w' => ∃ v, e = .returned v ∧ BigV w' v (n * 2 ^ s) (s / 32 + K + 1) ∧ Below w.heap.size w w' := by
  subst hx; exact refShl_any n K s va w ha hK hs

theorem mk0_big (w : World) (p : Addr) : BigV w (.slice (some p) 0 0) 0 0 := ⟨[], ⟨some p, 0, rfl, Nat.le_refl _, by simp [maxLen], .inl rfl⟩, dig_nil, .inl rfl, by simp⟩

set_option maxHeartbeats 2000000 in
theorem refBig_any (a : Nat) (ha : a < QQ) (w : World) :
    Calls Try.prog 19 #[.agg #[.int .u64 (dgl (a) 0 : Nat), .int .u64 (dgl (a) 1 : Nat), .int .u64 (dgl (a) 2 : Nat), .int .u64 (dgl (a) 3 : Nat), .int .u64 (dgl (a) 4 : Nat), .int .u64 (dgl (a) 5 : Nat), .int .u64 (dgl (a) 6 : Nat), .int .u64 (dgl (a) 7 : Nat)]] w fun e w' => ∃ v, e = .returned v ∧ BigV w' v a 40 ∧ Below w.heap.size w w' := by
  have HA := hide ha
  clear ha
  go_enter Try.func19, Try.ntmps19
  go_wp2
  go_loopw [3, 4] (fun v i wr => ∃ k : Nat, k ≤ 8 ∧ i = .int .i64 k ∧ BigV wr v (a % 18446744073709551616 ^ k) (2 * k + 20) ∧ Hid (Lies wr w.heap.size a) ∧ Below w.heap.size w wr ∧ w.heap.size < wr.heap.size)
      (fun _ i _ => 8 - (intOf i).toNat)
  case atStart =>
    refine ⟨0, by omega, rfl, ?_, (lies_alloc w a 32).alloc (by simp) _, Below.alloc (Below.alloc (Below.refl _ _) (Nat.le_refl _) _) (by simp) _, by simp; omega⟩
    rw [Nat.pow_zero, Nat.mod_one]
    exact (mk0_big _ _).mono (by omega)
  case round =>
    obtain ⟨k, hk, rfl, hbig, hl, hbel, hsz⟩ := hrel
    by_cases hlt : k < 8
    · have hj : (k : Int) < 8 := by omega
      have hc := hl.out k hlt
      have hm : IntKind.i64.wrap (64 * (k : Int)) = 64 * (k : Int) := by rw [IntKind.wrap_i64]; omega
      have HS := hide (big_step a k)
      have HX := hide (show 64 * (k : Int) = ((64 * k : Nat) : Int) by omega)
      have hdl := dgl_lt a k
      have HB := hide hbig
      have HBEL := hide hbel
      have HSZ := hide hsz
      clear hbig hbel
      go_wp2_with (first
        | (go_at_call 18; refine (small_any (dgl a k) hdl _).mono ?_; rintro e w1 ⟨v1, rfl, hb1, hw1⟩)
        | (go_at_call 21; refine (refShl_int _ 2 (64 * k) _ _ _ hb1 (by omega) (by omega) (by omega)).mono ?_; rintro e w2 ⟨v2, rfl, hb2, hw2⟩; clear hb1)
        | (go_at_call 37; refine (refAdd_any _ _ _ _ _ _ _ (HB.out.below (below_trans hw1 hw2)) hb2 (by omega) (by omega)).mono ?_; rintro e w3 ⟨v3, rfl, hb3, hw3⟩; clear hb2))
      go_roundw
      case rel =>
        rw [HS.out] at hb3
        have hB := below_trans hw1 (below_trans hw2 hw3)
        exact ⟨k + 1, by omega, by go_num, hb3.mono (by omega), hl.out.below hB HSZ.out, HBEL.out.trans (hB.mono HBEL.out.size), Nat.lt_of_lt_of_le HSZ.out hB.size⟩
      case measure => simp [intOf]; omega
    · have hk : k = 8 := by omega
      subst hk
      have HB := hide hbig
      have HBEL := hide hbel
      clear hbig hbel
      go_wp2
      go_ret
      have hb := HB.out
      rw [show a % 18446744073709551616 ^ 8 = a from Nat.mod_eq_of_lt HA.out] at hb
      exact ⟨_, rfl, hb.mono (by omega), HBEL.out⟩

theorem wide_inj {a b : Nat} (ha : a < QQ) (hb : b < QQ) (h : ∀ i, i < 8 → dgl a i = dgl b i) : a = b := by
  have e : dl 18446744073709551616 a 8 = dl 18446744073709551616 b 8 := by
    unfold dl
    apply List.map_congr_left
    intro i hi
    exact h i (List.mem_range.1 hi)
  rw [← dig_val (by decide) _ _ (dig_block ha), ← dig_val (by decide) _ _ (dig_block hb), e]

theorem wide_diff {a b : Nat} (ha : a < QQ) (hb : b < QQ) (h : a ≠ b) (w : World) :
    (Op.equalIn 10000 32 (.agg #[.int .u64 (dgl (a) 0 : Nat), .int .u64 (dgl (a) 1 : Nat), .int .u64 (dgl (a) 2 : Nat), .int .u64 (dgl (a) 3 : Nat), .int .u64 (dgl (a) 4 : Nat), .int .u64 (dgl (a) 5 : Nat), .int .u64 (dgl (a) 6 : Nat), .int .u64 (dgl (a) 7 : Nat)]) (.agg #[.int .u64 (dgl (b) 0 : Nat), .int .u64 (dgl (b) 1 : Nat), .int .u64 (dgl (b) 2 : Nat), .int .u64 (dgl (b) 3 : Nat), .int .u64 (dgl (b) 4 : Nat), .int .u64 (dgl (b) 5 : Nat), .int .u64 (dgl (b) 6 : Nat), .int .u64 (dgl (b) 7 : Nat)])).run Try.prog w = .ok false w := by
  have hw := wide_equal (dgl a) (dgl b) w
  rw [hw]
  congr 1
  rw [Bool.eq_false_iff]
  intro hc
  simp only [Bool.and_eq_true, beq_iff_eq] at hc
  obtain ⟨h0, h1, h2, h3, h4, h5, h6, h7⟩ := hc
  refine h (wide_inj ha hb fun i hi => ?_)
  match i, hi with
  | 0, _ => exact h0
  | 1, _ => exact h1
  | 2, _ => exact h2
  | 3, _ => exact h3
  | 4, _ => exact h4
  | 5, _ => exact h5
  | 6, _ => exact h6
  | 7, _ => exact h7

set_option maxHeartbeats 600000 in
theorem wideCmp_any (a b : Nat) (ha : a < QQ) (hb : b < QQ) (w : World) :
    Calls Try.prog 65 #[.agg #[.int .u64 (dgl (a) 0 : Nat), .int .u64 (dgl (a) 1 : Nat), .int .u64 (dgl (a) 2 : Nat), .int .u64 (dgl (a) 3 : Nat), .int .u64 (dgl (a) 4 : Nat), .int .u64 (dgl (a) 5 : Nat), .int .u64 (dgl (a) 6 : Nat), .int .u64 (dgl (a) 7 : Nat)], .agg #[.int .u64 (dgl (b) 0 : Nat), .int .u64 (dgl (b) 1 : Nat), .int .u64 (dgl (b) 2 : Nat), .int .u64 (dgl (b) 3 : Nat), .int .u64 (dgl (b) 4 : Nat), .int .u64 (dgl (b) 5 : Nat), .int .u64 (dgl (b) 6 : Nat), .int .u64 (dgl (b) 7 : Nat)]] w fun e w' => e = .returned (.int .i64 (cmpN a b)) ∧ Below w.heap.size w w' := by
  by_cases hab : a = b
  · subst hab
    have HC := hide (show cmpN a a = 0 from cmp_eq (β := 2) rfl)
    clear ha hb
    go_enter Try.func65, Try.ntmps65
    go_wp2
    go_ret
    exact ⟨ret_int HC.out.symm, Below.alloc (Below.alloc (Below.refl _ _) (Nat.le_refl _) _) (by simp) _⟩
  · have hd := fun w => wide_diff ha hb hab w
    have HRA := hide (rd_block ((lies_alloc w a 32).alloc (by simp) (.cells #[.int .u64 (dgl (b) 0 : Nat), .int .u64 (dgl (b) 1 : Nat), .int .u64 (dgl (b) 2 : Nat), .int .u64 (dgl (b) 3 : Nat), .int .u64 (dgl (b) 4 : Nat), .int .u64 (dgl (b) 5 : Nat), .int .u64 (dgl (b) 6 : Nat), .int .u64 (dgl (b) 7 : Nat)] 32)) (by simp; omega))
    have hlb := lies_alloc (w.alloc (.cells #[.int .u64 (dgl (a) 0 : Nat), .int .u64 (dgl (a) 1 : Nat), .int .u64 (dgl (a) 2 : Nat), .int .u64 (dgl (a) 3 : Nat), .int .u64 (dgl (a) 4 : Nat), .int .u64 (dgl (a) 5 : Nat), .int .u64 (dgl (a) 6 : Nat), .int .u64 (dgl (a) 7 : Nat)] 32)) b 32
    rw [World.size_alloc] at hlb
    have HRB := hide (rd_block hlb (by simp))
    clear hlb
    have HDA := hide (dig_block ha)
    have HDB := hide (dig_block hb)
    have HAB := hide hab
    clear ha hb hab
    by_cases hlt : a < b
    · have HC := hide (show cmpN a b = -1 by unfold cmpN; rw [if_pos hlt])
      have hdec := decide_eq_true hlt
      clear hlt
      go_enter Try.func65, Try.ntmps65
      go_wp2
      go_region_with (go_at_call 86; refine (less_any a b _ _ _ _ _ HRA.out.drew HDA.out HRB.out.drew HDB.out).mono ?_; rintro e w' ⟨rfl, hw⟩; subst w'; rw [hdec])
      all_goals
        go_wp2
        go_ret
        exact ⟨ret_int HC.out.symm, (Below.alloc (Below.alloc (Below.refl _ _) (Nat.le_refl _) _) (by simp) _).drew⟩
    · have HC := hide (show cmpN a b = 1 by unfold cmpN; rw [if_neg hlt, if_pos (by have := HAB.out; omega)])
      have hdec := decide_eq_false hlt
      clear hlt
      go_enter Try.func65, Try.ntmps65
      go_wp2
      go_region_with (go_at_call 86; refine (less_any a b _ _ _ _ _ HRA.out.drew HDA.out HRB.out.drew HDB.out).mono ?_; rintro e w' ⟨rfl, hw⟩; subst w'; rw [hdec])
      all_goals
        go_wp2
        go_ret
        exact ⟨ret_int HC.out.symm, (Below.alloc (Below.alloc (Below.refl _ _) (Nat.le_refl _) _) (by simp) _).drew⟩

end Go.Proofs.Yteocibahclpegaa

/- The walk over radicandlaw02.WideAdds. -/
set_option linter.unusedVariables false
set_option linter.unusedSimpArgs false
set_option maxRecDepth 8000
namespace Go.Proofs.Yteocibahclpegaa
open Go.RowKit Plain

/-- Eight limbs lie in a block of the world. -/
def LiesF (w : World) (b : Nat) (f : Nat → Nat) : Prop := (∀ i, i < 8 → w.cell? ⟨b, i, none⟩ = some (.int .u64 (f i : Nat))) ∧ b < w.heap.size
theorem LiesF.below {w w' : World} {b : Nat} {f : Nat → Nat} (h : LiesF w b f) (hb : Below w.heap.size w w') : LiesF w' b f :=
  ⟨fun i hi => (hb.cell (p := ⟨b, i, none⟩) h.2).trans (h.1 i hi), Nat.lt_of_lt_of_le h.2 hb.size⟩
theorem below_allocs (w : World) (o : Obj) : Below w.heap.size w (w.alloc o) := (Below.refl _ _).alloc (Nat.le_refl _) o
theorem LiesF.alloc {w : World} {b : Nat} {f : Nat → Nat} (h : LiesF w b f) (o : Obj) : LiesF (w.alloc o) b f := h.below (below_allocs w o)
theorem LiesF.drew {w : World} {b : Nat} {f : Nat → Nat} (h : LiesF w b f) : LiesF w.drew b f := h
theorem liesF_new (w : World) (f : Nat → Nat) (e : TypeId) : LiesF (w.alloc (.cells #[.int .u64 (f 0 : Nat), .int .u64 (f 1 : Nat), .int .u64 (f 2 : Nat), .int .u64 (f 3 : Nat), .int .u64 (f 4 : Nat), .int .u64 (f 5 : Nat), .int .u64 (f 6 : Nat), .int .u64 (f 7 : Nat)] e)) w.heap.size f := by
  refine ⟨fun i hi => ?_, by simp⟩
  match i, hi with
  | 0, _ => simp [go_sem]
  | 1, _ => simp [go_sem]
  | 2, _ => simp [go_sem]
  | 3, _ => simp [go_sem]
  | 4, _ => simp [go_sem]
  | 5, _ => simp [go_sem]
  | 6, _ => simp [go_sem]
  | 7, _ => simp [go_sem]

end Go.Proofs.Yteocibahclpegaa

