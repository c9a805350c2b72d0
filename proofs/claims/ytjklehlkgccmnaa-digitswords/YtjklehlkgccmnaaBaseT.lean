/- Contracts and laws: DigI, DigJ. -/
import Derived.Test.YtjklehlkgccmnaaBaseS
import Derived.Test.YtjklehlkgccmnaaBaseK
/- Contracts: digits.Hex, wordly, Word, ParseWord. -/
set_option linter.unusedVariables false
set_option linter.unusedSimpArgs false
set_option maxRecDepth 8000
namespace Go.Proofs.Ytjklehlkgccmnaa
open Go.RowKit Plain

/-- How many digits a number has in hex. -/
def hexN (a : Nat) : Nat := max ((Go.bitLen a + 3) / 4) 1

theorem bitLen_small8 (n : Nat) (h : n < QQ) : Go.bitLen n ≤ 512 := by
  have hs := bitLen_spec n
  have h2 : n < 18446744073709551616 ^ 8 := h
  rw [LLpow] at h2
  have h3 := pow_inj_len (β := 2) (a := 64 * 8) (b := Go.bitLen n) (by decide) h2 (by
    by_cases h0 : n = 0
    · exact .inl (by rw [h0]; rfl)
    · exact .inr (hs.2 h0))
  omega
theorem hexN_pos (a : Nat) : 0 < hexN a := by unfold hexN; omega
theorem hexN_le {a : Nat} (h : a < QQ) : hexN a ≤ 128 := by have := bitLen_small8 a h; unfold hexN; omega
theorem hexN_lt (a : Nat) : a < 16 ^ hexN a := by
  rw [← pow4]
  refine Nat.lt_of_lt_of_le (bitLen_spec a).1 (Nat.pow_le_pow_right (by decide) ?_)
  unfold hexN
  omega
theorem hexN_ge (a : Nat) : hexN a = 1 ∨ 16 ^ (hexN a - 1) ≤ a := by
  by_cases h : hexN a = 1
  · exact .inl h
  · right
    have h0 : a ≠ 0 := by
      intro h0
      apply h
      rw [h0]
      rfl
    rw [← pow4]
    refine Nat.le_trans (Nat.pow_le_pow_right (by decide) ?_) ((bitLen_spec a).2 h0)
    unfold hexN at h ⊢
    omega
theorem hex_told (a : Nat) (ha : a < QQ) : Told (plainN 16 (textN 16 a (hexN a))) 16 (textN 16 a (hexN a)) a 0 :=
  textN_told (by decide) (by decide) a _ (hexN_pos a) (hexN_lt a) (hexN_ge a) ha

set_option maxHeartbeats 4000000 in
theorem hex_any (a : Nat) (ha : a < QQ) (w : World) :
    Calls Try.prog 8 #[.agg #[.int .u64 (dgl (a) 0 : Nat), .int .u64 (dgl (a) 1 : Nat), .int .u64 (dgl (a) 2 : Nat), .int .u64 (dgl (a) 3 : Nat), .int .u64 (dgl (a) 4 : Nat), .int .u64 (dgl (a) 5 : Nat), .int .u64 (dgl (a) 6 : Nat), .int .u64 (dgl (a) 7 : Nat)]] w fun e w' => e = .returned (.string (textN 16 a (hexN a))) ∧ Below w.heap.size w w' := by
  have hLb : Go.bitLen a ≤ 512 := bitLen_small8 a ha
  have HLE := hide (fun w => wideLen_any a ha w)
  have HIN := hide (fun w => inHex_any a (hexN a) ha (by unfold hexN; omega) w)
  obtain ⟨x, hx⟩ : ∃ x, x = (Go.bitLen a + 3) / 4 := ⟨_, rfl⟩
  have HN : Hid (max x 1 = hexN a) := by unfold Hid hexN; rw [hx]
  have HX := hide hx.symm
  have HL := hide hLb
  have H6 : Hid (IntKind.i64.wrap ((Go.bitLen a : Int) + 3) = (Go.bitLen a : Int) + 3) := by unfold Hid; rw [IntKind.wrap_i64]; omega
  have H7 : Hid (IntKind.i64.wrap (((Go.bitLen a : Int) + 3).tdiv 4) = (x : Int)) := by
    unfold Hid
    rw [Int.tdiv_eq_ediv_of_nonneg (by omega), IntKind.wrap_i64] <;> omega
  have H8 : Hid (max (x : Int) 1 = (hexN a : Nat)) := by have := HN.out; unfold Hid; omega
  clear hLb hx
  generalize hexN a = n at *
  generalize Go.bitLen a = L at *
  have h1 : LiesF (w.alloc (.cells #[.int .u64 ((dgl a) 0 : Nat), .int .u64 ((dgl a) 1 : Nat), .int .u64 ((dgl a) 2 : Nat), .int .u64 ((dgl a) 3 : Nat), .int .u64 ((dgl a) 4 : Nat), .int .u64 ((dgl a) 5 : Nat), .int .u64 ((dgl a) 6 : Nat), .int .u64 ((dgl a) 7 : Nat)] 24)) w.heap.size (dgl a) ∧ Below w.heap.size w (w.alloc (.cells #[.int .u64 ((dgl a) 0 : Nat), .int .u64 ((dgl a) 1 : Nat), .int .u64 ((dgl a) 2 : Nat), .int .u64 ((dgl a) 3 : Nat), .int .u64 ((dgl a) 4 : Nat), .int .u64 ((dgl a) 5 : Nat), .int .u64 ((dgl a) 6 : Nat), .int .u64 ((dgl a) 7 : Nat)] 24)) := ⟨liesF_new w (dgl a) 24, below_allocs w _⟩
  go_enter Try.func8, Try.ntmps8
  go_upto_region 1 with fail
  refine wp_region_grow 8 [(3, .val (.agg #[.int .u64 (dgl (a) 0 : Nat), .int .u64 (dgl (a) 1 : Nat), .int .u64 (dgl (a) 2 : Nat), .int .u64 (dgl (a) 3 : Nat), .int .u64 (dgl (a) 4 : Nat), .int .u64 (dgl (a) 5 : Nat), .int .u64 (dgl (a) 6 : Nat), .int .u64 (dgl (a) 7 : Nat)])), (4, .val (.agg #[.int .u64 (dgl (a) 0 : Nat), .int .u64 (dgl (a) 1 : Nat), .int .u64 (dgl (a) 2 : Nat), .int .u64 (dgl (a) 3 : Nat), .int .u64 (dgl (a) 4 : Nat), .int .u64 (dgl (a) 5 : Nat), .int .u64 (dgl (a) 6 : Nat), .int .u64 (dgl (a) 7 : Nat)])), (5, .val (.int .i64 (L : Nat))), (6, .val (.int .i64 ((L : Int) + 3))), (7, .val (.int .i64 (x : Nat))), (8, .val (.int .i64 (n : Nat))), (9, .val (.string (textN 16 a n))), (2, .val (.string (textN 16 a n)))]
    (fun W => LiesF W w.heap.size (dgl a) ∧ Below w.heap.size w W) mixedOk (by kernel_rfl) (by kernel_rfl) (⟨h1.1.below (Below.refl _ _).drew, h1.2.drew⟩) (fun W W' h hb => ⟨h.1.below hb, below_trans h.2 hb⟩) ?_ ?_
  · refine gSt (gStep_run rfl ?_) ?_
    · intro ρ W hC hc hf hL
      have e1 : ρ (.tmp 1) = .pointer (some ⟨w.heap.size, 0, none⟩) := hL 1 (by decide +kernel)
      have hl := hC.1.1
      simp [go_sem, hc, hf, e1, hl]
      exact ⟨Below.refl _ _, rfl⟩
    refine gSt (gStep_run rfl ?_) ?_
    · intro ρ W hC hc hf hL
      have e1 : ρ (.tmp 1) = .pointer (some ⟨w.heap.size, 0, none⟩) := hL 1 (by decide +kernel)
      have hl := hC.1.1
      simp [go_sem, hc, hf, e1, hl]
      exact ⟨Below.refl _ _, rfl⟩
    refine gSt (gStep_run rfl ?_) ?_
    · intro ρ W hC hc hf hL
      have e4 : ρ (.tmp 4) = .agg #[.int .u64 (dgl (a) 0 : Nat), .int .u64 (dgl (a) 1 : Nat), .int .u64 (dgl (a) 2 : Nat), .int .u64 (dgl (a) 3 : Nat), .int .u64 (dgl (a) 4 : Nat), .int .u64 (dgl (a) 5 : Nat), .int .u64 (dgl (a) 6 : Nat), .int .u64 (dgl (a) 7 : Nat)] := hL 4 (by decide +kernel)
      simp [go_sem, hc, hf, e4]
      refine (HLE.out W).mono ?_
      rintro e w' ⟨rfl, hb⟩
      exact ⟨_, rfl, by first | exact hb | (subst hb; exact Below.refl _ _), rfl⟩
    refine gSt (gStep_run rfl ?_) ?_
    · intro ρ W hC hc hf hL
      have e5 : ρ (.tmp 5) = .int .i64 (L : Nat) := hL 5 (by decide +kernel)
      simp [go_sem, hc, hf, e5, H6.out]
      exact ⟨Below.refl _ _, rfl⟩
    refine gSt (gStep_run rfl ?_) ?_
    · intro ρ W hC hc hf hL
      have e6 : ρ (.tmp 6) = .int .i64 ((L : Int) + 3) := hL 6 (by decide +kernel)
      simp [go_sem, hc, hf, e6, H7.out]
      exact ⟨Below.refl _ _, rfl⟩
    refine gSt (gStep_run rfl ?_) ?_
    · intro ρ W hC hc hf hL
      have e7 : ρ (.tmp 7) = .int .i64 (x : Nat) := hL 7 (by decide +kernel)
      simp [go_sem, hc, hf, e7, H8.out]
      exact ⟨Below.refl _ _, rfl⟩
    refine gSt (gStep_run rfl ?_) ?_
    · intro ρ W hC hc hf hL
      have e3 : ρ (.tmp 3) = .agg #[.int .u64 (dgl (a) 0 : Nat), .int .u64 (dgl (a) 1 : Nat), .int .u64 (dgl (a) 2 : Nat), .int .u64 (dgl (a) 3 : Nat), .int .u64 (dgl (a) 4 : Nat), .int .u64 (dgl (a) 5 : Nat), .int .u64 (dgl (a) 6 : Nat), .int .u64 (dgl (a) 7 : Nat)] := hL 3 (by decide +kernel)
      have e8 : ρ (.tmp 8) = .int .i64 (n : Nat) := hL 8 (by decide +kernel)
      simp [go_sem, hc, hf, e3, e8]
      refine (HIN.out W).mono ?_
      rintro e w' ⟨rfl, hb⟩
      exact ⟨_, rfl, by first | exact hb | (subst hb; exact Below.refl _ _), rfl⟩
    refine gSt (gStep_run rfl (gRun_move 9 2 (.inr rfl) rfl (by decide +kernel) (fun v w h => h))) ?_
    exact gSt0
  · intro W hC
    refine gFi 3 rfl ?_
    rintro _ rfl
    refine gFi 4 rfl ?_
    rintro _ rfl
    refine gFi 5 rfl ?_
    rintro _ rfl
    refine gFi 6 rfl ?_
    rintro _ rfl
    refine gFi 7 rfl ?_
    rintro _ rfl
    refine gFi 8 rfl ?_
    rintro _ rfl
    refine gFi 9 rfl ?_
    rintro _ rfl
    refine gFi 2 rfl ?_
    rintro _ rfl
    refine gFi0 ?_
    simp only [List.drop_succ_cons, List.drop_zero, Act.put, List.setIfInBounds_toArray, List.set_cons_succ, List.set_cons_zero]
    have HB := hide hC.2
    clear hC h1
    go_wp2
    go_ret
    exact ⟨rfl, HB.out⟩


/-- A word may have so many bits. -/
def Wordly (b : Int) : Prop := 4 ≤ b ∧ b ≤ 128 ∧ b % 4 = 0
instance (b : Int) : Decidable (Wordly b) := inferInstanceAs (Decidable (_ ∧ _ ∧ _))
set_option maxHeartbeats 1000000 in
theorem wordly_any (b : Int) (bb : Bool) (hbb : Hid (bb = true ↔ Wordly b)) (h1 : -9223372036854775808 ≤ b) (h2 : b ≤ 9223372036854775807) (w : World) :
    Calls Try.prog 39 #[.int .i64 b] w fun e w' => e = .returned (.bool bb) ∧ w' = w := by
  by_cases ha : 4 ≤ b
  · by_cases hb : b ≤ 128
    · by_cases hc : b % 4 = 0
      · have HB : Hid (true = bb) := (hbb.out.mpr ⟨ha, hb, hc⟩).symm
        have hm : (b % 4 == 0) = true := by rw [hc]; rfl
        clear hbb
        go_enter Try.func39, Try.ntmps39
        go_wp2
        go_ret
        exact ⟨ret_bool HB.out, rfl⟩
      · have HB : Hid (false = bb) := (Bool.eq_false_iff.mpr fun h => hc (hbb.out.mp h).2.2).symm
        have hm : (b % 4 == 0) = false := by rw [beq_eq_false_iff_ne]; exact hc
        clear hbb
        go_enter Try.func39, Try.ntmps39
        go_wp2
        go_ret
        exact ⟨ret_bool HB.out, rfl⟩
    · have HB : Hid (false = bb) := (Bool.eq_false_iff.mpr fun h => hb (hbb.out.mp h).2.1).symm
      clear hbb
      go_enter Try.func39, Try.ntmps39
      go_wp2
      go_ret
      exact ⟨ret_bool HB.out, rfl⟩
  · have HB : Hid (false = bb) := (Bool.eq_false_iff.mpr fun h => ha (hbb.out.mp h).1).symm
    clear hbb
    go_enter Try.func39, Try.ntmps39
    go_wp2
    go_ret
    exact ⟨ret_bool HB.out, rfl⟩

set_option maxHeartbeats 1000000 in
theorem word_none (hi lo : Nat) (b : Int) (hb : ¬ Wordly b) (h1 : -9223372036854775808 ≤ b) (h2 : b ≤ 9223372036854775807) (w : World) :
    Calls Try.prog 16 #[.agg #[.int .u64 (hi : Nat), .int .u64 (lo : Nat)], .int .i64 b] w fun e w' => e = .returned (.string ⟨#[]⟩) ∧ Below w.heap.size w w' := by
  have HW := hide (fun w => wordly_any b false (show Hid _ from ⟨fun h => Bool.noConfusion h, fun h => absurd h hb⟩) h1 h2 w)
  have HB := hide (below_allocs w (.cells #[.int .u64 (hi : Nat), .int .u64 (lo : Nat)] 39))
  clear hb
  go_enter Try.func16, Try.ntmps16
  go_wp2_with (go_at_call 39; refine (HW.out _).mono ?_; rintro e w' ⟨rfl, hw⟩; subst w')
  go_ret
  exact ⟨rfl, HB.out⟩
set_option maxHeartbeats 1000000 in
theorem word_some (hi lo n : Nat) (hh : hi < 18446744073709551616) (hl : lo < 18446744073709551616) (hn : 1 ≤ n) (hn2 : n ≤ 32) (w : World) :
    Calls Try.prog 16 #[.agg #[.int .u64 (hi : Nat), .int .u64 (lo : Nat)], .int .i64 (4 * (n : Int))] w fun e w' => e = .returned (.string (textN 16 (lo + 18446744073709551616 * hi) n)) ∧ Below w.heap.size w w' := by
  have HW := hide (fun w => wordly_any (4 * (n : Int)) true (show Hid _ from ⟨fun _ => ⟨by omega, by omega, by omega⟩, fun _ => rfl⟩) (by omega) (by omega) w)
  have HF := hide (fun w => wideFrom_any hi lo hh hl w)
  have HI := hide (fun w => inHex_any (lo + 18446744073709551616 * hi) n (by unfold QQ; omega) (by omega) w)
  generalize lo + 18446744073709551616 * hi = a at *
  have HB := hide (below_allocs w (.cells #[.int .u64 (hi : Nat), .int .u64 (lo : Nat)] 39))
  have hq : (4 * (n : Int)) / 4 = (n : Int) := by omega
  have hn3 : (n : Int) ≤ 32 := by omega
  go_enter Try.func16, Try.ntmps16
  go_wp2_with (go_at_call 39; refine (HW.out _).mono ?_; rintro e w' ⟨rfl, hw⟩; subst w')
  refine (HF.out _).mono ?_
  rintro e w1 ⟨rfl, hb1⟩
  have HB1 := hide (below_trans HB.out hb1)
  clear hb1 HB
  go_wp2_with fail
  refine (HI.out _).mono ?_
  rintro e w2 ⟨rfl, hb2⟩
  have HB2 := hide (below_trans HB1.out hb2)
  clear hb2 HB1
  go_wp2
  go_ret
  exact ⟨rfl, HB2.out⟩

end Go.Proofs.Ytjklehlkgccmnaa

/- Contracts: digits.ParseWord. -/
set_option linter.unusedVariables false
set_option linter.unusedSimpArgs false
set_option maxRecDepth 8000
namespace Go.Proofs.Ytjklehlkgccmnaa
open Go.RowKit Plain

/-- A word's own cell, still 0, at the place where the call began. -/
structure WdSt (w W : World) : Prop where
  c : ∀ i, i < 2 → W.cell? ⟨w.heap.size, i, none⟩ = some (.int .u64 0)
  fr : ∀ i, W.frozen? ⟨w.heap.size, i, none⟩ = false
  lt : w.heap.size < W.heap.size
  bel : Below w.heap.size w W
theorem WdSt.below {w W W' : World} (h : WdSt w W) (hb : Below W.heap.size W W') : WdSt w W' :=
  ⟨fun i hi => (hb.cell (p := ⟨w.heap.size, i, none⟩) h.lt).trans (h.c i hi), fun i => (hb.frozen (p := ⟨w.heap.size, i, none⟩) h.lt).trans (h.fr i), Nat.lt_of_lt_of_le h.lt hb.size, below_trans h.bel hb⟩
theorem WdSt.start (w : World) (e : TypeId) : WdSt w (w.alloc (.cells #[.int .u64 0, .int .u64 0] e)) :=
  ⟨fun i hi => by
    match i, hi with
    | 0, _ => simp [go_sem]
    | 1, _ => simp [go_sem], fun i => by simp [go_sem], by simp, below_allocs _ _⟩

set_option maxHeartbeats 1000000 in
theorem parseWord_arg (s : ByteArray) (b : Int) (hb : ¬ Wordly b) (h1 : -9223372036854775808 ≤ b) (h2 : b ≤ 9223372036854775807) (w : World) :
    Calls Try.prog 17 #[.string s, .int .i64 b] w fun e w' => e = .returned (.tuple #[.agg #[.int .u64 0, .int .u64 0], .int .i64 1]) ∧ Below w.heap.size w w' := by
  have HW := hide (fun w => wordly_any b false (show Hid _ from ⟨fun h => Bool.noConfusion h, fun h => absurd h hb⟩) h1 h2 w)
  have HB := hide (below_allocs w (.cells #[.int .u64 0, .int .u64 0] 39))
  clear hb
  go_enter Try.func17, Try.ntmps17
  go_wp2_with (go_at_call 39; refine (HW.out _).mono ?_; rintro e w' ⟨rfl, hw⟩; subst w')
  exact bodyPost_ret (v := .tuple #[.agg #[.int .u64 0, .int .u64 0], .int .i64 1]) (by simp [results, Try.results17, go_sem]) rfl ⟨rfl, HB.out⟩

set_option maxHeartbeats 1000000 in
theorem parseWord_form (s : ByteArray) (n : Nat) (hn : 1 ≤ n) (hn2 : n ≤ 32) (hs : s.size ≠ n) (hs2 : s.size ≤ 4611686018427387904) (w : World) :
    Calls Try.prog 17 #[.string s, .int .i64 (4 * (n : Int))] w fun e w' => e = .returned (.tuple #[.agg #[.int .u64 0, .int .u64 0], .int .i64 2]) ∧ Below w.heap.size w w' := by
  have HW := hide (fun w => wordly_any (4 * (n : Int)) true (show Hid _ from ⟨fun _ => ⟨by omega, by omega, by omega⟩, fun _ => rfl⟩) (by omega) (by omega) w)
  have HB := hide (below_allocs w (.cells #[.int .u64 0, .int .u64 0] 39))
  have hq : (4 * (n : Int)) / 4 = (n : Int) := by omega
  have hn3 : (n : Int) ≤ 32 := by omega
  have hne : (((s.size : Nat) : Int) != (n : Int)) = true := by rw [bne_iff_ne]; omega
  go_enter Try.func17, Try.ntmps17
  go_wp2_with (go_at_call 39; refine (HW.out _).mono ?_; rintro e w' ⟨rfl, hw⟩; subst w')
  exact bodyPost_ret (v := .tuple #[.agg #[.int .u64 0, .int .u64 0], .int .i64 2]) (by simp [results, Try.results17, go_sem]) rfl ⟨rfl, HB.out⟩

set_option maxHeartbeats 1000000 in
theorem parseWord_some (s : ByteArray) (n x : Nat) (c : Int) (hn : 1 ≤ n) (hn2 : n ≤ 32) (hs : s.size = n) (hT : Told (goodN 16 s s.size) 16 s x c) (w : World) :
    Calls Try.prog 17 #[.string s, .int .i64 (4 * (n : Int))] w fun e w' => e = .returned (.tuple #[.agg #[.int .u64 (dgl x 1 : Nat), .int .u64 (dgl x 0 : Nat)], .int .i64 c]) ∧ Below w.heap.size w w' := by
  have HW := hide (fun w => wordly_any (4 * (n : Int)) true (show Hid _ from ⟨fun _ => ⟨by omega, by omega, by omega⟩, fun _ => rfl⟩) (by omega) (by omega) w)
  have HR : Hid (∀ w, Calls Try.prog 41 #[.string s, .int .u64 16] w fun e w' => e = .returned (.tuple #[.agg #[.int .u64 (dgl (x) 0 : Nat), .int .u64 (dgl (x) 1 : Nat), .int .u64 (dgl (x) 2 : Nat), .int .u64 (dgl (x) 3 : Nat), .int .u64 (dgl (x) 4 : Nat), .int .u64 (dgl (x) 5 : Nat), .int .u64 (dgl (x) 6 : Nat), .int .u64 (dgl (x) 7 : Nat)], .int .i64 c]) ∧ Below w.heap.size w w') := fun w => read_fix s 16 x c (by decide) (by decide) (by omega) hT w
  have HL := hide (fun w => wideLow_any (dgl x) w)
  have HS := hide (WdSt.start w 39)
  have hq : (4 * (n : Int)) / 4 = (n : Int) := by omega
  have hn3 : (n : Int) ≤ 32 := by omega
  have hne : (((s.size : Nat) : Int) != (n : Int)) = false := by rw [bne_eq_false_iff_eq]; omega
  have hsz : (s.size : Int) ≤ 32 := by omega
  clear hT
  go_enter Try.func17, Try.ntmps17
  go_wp2_with (go_at_call 39; refine (HW.out _).mono ?_; rintro e w' ⟨rfl, hw⟩; subst w')
  refine (HR.out _).mono ?_
  rintro e w1 ⟨rfl, hb1⟩
  have HS1 := hide (HS.out.below hb1)
  clear hb1 HS
  go_wp2_with fail
  refine (HL.out _).mono ?_
  rintro e w2 ⟨rfl, hb2⟩
  have HS2 := hide ((HS1.out.below (below_allocs w1 _)).below hb2)
  clear hb2 HS1
  have hc := HS2.out.c
  have hf := HS2.out.fr
  have hl := HS2.out.lt
  have hc0 := hc 0 (by decide)
  have hc1 := hc 1 (by decide)
  have hf0 := hf 0
  have hf1 := hf 1
  have HB := hide HS2.out.bel
  clear HS2
  go_wp2
  exact bodyPost_ret (v := .tuple #[.agg #[.int .u64 (dgl x 1 : Nat), .int .u64 (dgl x 0 : Nat)], .int .i64 c]) (by simp [results, Try.results17, go_sem, hc0, hc1, hl]) rfl ⟨rfl, (HB.out.setCell (p := ⟨w.heap.size, 0, none⟩) (Nat.le_refl _) _).setCell (p := ⟨w.heap.size, 1, none⟩) (Nat.le_refl _) _⟩

end Go.Proofs.Ytjklehlkgccmnaa

