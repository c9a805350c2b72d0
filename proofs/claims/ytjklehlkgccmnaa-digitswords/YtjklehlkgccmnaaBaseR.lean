/- Contracts and laws: DigB, DigC, DigD, DigE. -/
import Derived.Test.YtjklehlkgccmnaaBaseQ
import Derived.Lib.OthersKept
import Derived.Test.YtjklehlkgccmnaaBaseC
/- Contracts: digits.read. -/
set_option linter.unusedVariables false
set_option linter.unusedSimpArgs false
set_option maxRecDepth 8000
namespace Go.Proofs.Ytjklehlkgccmnaa
open Go.RowKit Plain

/-- A byte of a text, as a number. -/
def byteN (s : ByteArray) (i : Nat) : Nat := (s.get! i).toNat
/-- The number of a text's first k bytes. -/
def numN (base : Nat) (s : ByteArray) : Nat → Nat
  | 0 => 0
  | k + 1 => base * numN base s k + worthN (byteN s k)
/-- Its first k bytes are digits. -/
def goodN (base : Nat) (s : ByteArray) (k : Nat) : Prop := ∀ i, i < k → worthN (byteN s i) < base

theorem worth_high (r : Int) (h : 128 ≤ r) : worthN r = 18446744073709551615 := by
  unfold worthN
  rw [if_neg (by omega), if_neg (by omega)]
theorem byte_at (s : ByteArray) (pos : Nat) (h : pos < s.size) : (s[pos]'h).toNat = byteN s pos := by
  unfold byteN
  rw [← get_at s pos h, Nat.add_zero]

structure ReadSt (w : World) (f : Nat → Nat) (s : ByteArray) (pos : Nat) (W : World) : Prop where
  lr : LiesF W w.heap.size (fun _ => 0)
  fr : ∀ i, W.frozen? ⟨w.heap.size, i, none⟩ = false
  la : LiesF W (w.heap.size + 1) f
  fa : ∀ i, W.frozen? ⟨w.heap.size + 1, i, none⟩ = false
  it : W.heap[w.heap.size + 1 + 1]? = some (.stringIter s pos)
  bel : Below w.heap.size w W
theorem ReadSt.below {w : World} {f : Nat → Nat} {s : ByteArray} {pos : Nat} {W W' : World} (h : ReadSt w f s pos W) (hb : Below W.heap.size W W') : ReadSt w f s pos W' := by
  have hlt : w.heap.size + 1 + 1 < W.heap.size := (Array.getElem?_eq_some_iff.1 h.it).1
  exact ⟨h.lr.below hb, fun i => (hb.frozen (p := ⟨w.heap.size, i, none⟩) h.lr.2).trans (h.fr i), h.la.below hb, fun i => (hb.frozen (p := ⟨w.heap.size + 1, i, none⟩) h.la.2).trans (h.fa i), (hb.block _ hlt).trans h.it, below_trans h.bel hb⟩
theorem ReadSt.next {w : World} {f : Nat → Nat} {s : ByteArray} {pos : Nat} {W : World} (h : ReadSt w f s pos W) (pos' : Nat) : ReadSt w f s pos' (W.iterAt (w.heap.size + 1 + 1) s pos') := by
  have hb : Below (w.heap.size + 1 + 1) W (W.iterAt (w.heap.size + 1 + 1) s pos') := Lib.below_iterAt (Below.refl _ _) (Nat.le_refl _) s pos'
  exact ⟨lies_box h.lr hb (by omega), fun i => (hb.frozen (p := ⟨w.heap.size, i, none⟩) (show w.heap.size < w.heap.size + 1 + 1 by omega)).trans (h.fr i), lies_box h.la hb (by omega), fun i => (hb.frozen (p := ⟨w.heap.size + 1, i, none⟩) (show w.heap.size + 1 < w.heap.size + 1 + 1 by omega)).trans (h.fa i),
    Lib.iterAt_heap W _ s pos pos' h.it, h.bel.trans (hb.mono (by omega))⟩
theorem ReadSt.set {w : World} {f g : Nat → Nat} {s : ByteArray} {pos : Nat} {W : World} (h : ReadSt w f s pos W) : ReadSt w g s pos ((((((((W.setCell ⟨w.heap.size + 1, 0, none⟩ (.int .u64 (g 0 : Nat))).setCell ⟨w.heap.size + 1, 1, none⟩ (.int .u64 (g 1 : Nat))).setCell ⟨w.heap.size + 1, 2, none⟩ (.int .u64 (g 2 : Nat))).setCell ⟨w.heap.size + 1, 3, none⟩ (.int .u64 (g 3 : Nat))).setCell ⟨w.heap.size + 1, 4, none⟩ (.int .u64 (g 4 : Nat))).setCell ⟨w.heap.size + 1, 5, none⟩ (.int .u64 (g 5 : Nat))).setCell ⟨w.heap.size + 1, 6, none⟩ (.int .u64 (g 6 : Nat))).setCell ⟨w.heap.size + 1, 7, none⟩ (.int .u64 (g 7 : Nat))) := by
  refine ⟨lies_ne h.lr (by omega), fun i => by simpa [go_sem] using h.fr i, set8_same W _ g f h.la, fun i => by simpa [go_sem] using h.fa i, ?_, below_set8 h.bel _ (by omega) _ _ _ _ _ _ _ _⟩
  have hk : ∀ (X : World) (i : Nat) (u : Value), (X.setCell ⟨w.heap.size + 1, i, none⟩ u).heap[w.heap.size + 1 + 1]? = X.heap[w.heap.size + 1 + 1]? := fun X i u => Below.heap_setCell X _ u _ (show w.heap.size + 1 + 1 ≠ w.heap.size + 1 by omega)
  rw [hk, hk, hk, hk, hk, hk, hk, hk]
  exact h.it
theorem ReadSt.start (w : World) (s : ByteArray) (W : World) (h1 : LiesF W w.heap.size (fun _ => 0)) (h2 : ∀ i, W.frozen? ⟨w.heap.size, i, none⟩ = false) (h3 : LiesF W (w.heap.size + 1) (fun _ => 0)) (h4 : ∀ i, W.frozen? ⟨w.heap.size + 1, i, none⟩ = false) (h5 : W.heap[w.heap.size + 1 + 1]? = some (.stringIter s 0)) (h6 : Below w.heap.size w W) : ReadSt w (fun _ => 0) s 0 W := ⟨h1, h2, h3, h4, h5, h6⟩
theorem iterPos_of' {W : World} {k : Nat} {s : ByteArray} {pos : Nat} (h : W.heap[k]? = some (.stringIter s pos)) : W.iterPos k = pos := by unfold World.iterPos; rw [h]

set_option maxHeartbeats 4000000 in
theorem read_any (s : ByteArray) (base : Nat) (hb1 : 1 ≤ base) (hb2 : base ≤ 16) (hs : s.size ≤ 4611686018427387904) (w : World) :
    Calls Try.prog 41 #[.string s, .int .u64 (base : Nat)] w fun e w' =>
      (∃ x c, e = .returned (.tuple #[.agg #[.int .u64 (dgl (x) 0 : Nat), .int .u64 (dgl (x) 1 : Nat), .int .u64 (dgl (x) 2 : Nat), .int .u64 (dgl (x) 3 : Nat), .int .u64 (dgl (x) 4 : Nat), .int .u64 (dgl (x) 5 : Nat), .int .u64 (dgl (x) 6 : Nat), .int .u64 (dgl (x) 7 : Nat)], .int .i64 c]) ∧ ((goodN base s s.size ∧ numN base s s.size < QQ ∧ x = numN base s s.size ∧ c = 0) ∨ (goodN base s s.size ∧ QQ ≤ numN base s s.size ∧ x = 0 ∧ c = 4) ∨ (¬ goodN base s s.size ∧ x = 0 ∧ c = 2))) ∧ Below w.heap.size w w' := by
  go_enter Try.func41, Try.ntmps41
  go_wp2
  go_loopw [7] (fun f wr => ∃ (pos : Nat) (g : Nat → Nat), pos ≤ s.size ∧ f = .bool (decide (numN base s pos < QQ)) ∧ Hid (goodN base s pos ∧ (numN base s pos < QQ → g = dgl (numN base s pos))) ∧ Hid (ReadSt w g s pos wr))
    (fun _ wr => s.size - wr.iterPos (w.heap.size + 1 + 1))
  case atStart =>
    refine ⟨0, fun _ => 0, Nat.zero_le _, ?_, ⟨fun i hi => absurd hi (Nat.not_lt_zero _), fun _ => dgl_z.symm⟩, ?_⟩
    · rw [decide_eq_true (show numN base s 0 < QQ from Nat.lt_trans Nat.zero_lt_one one_lt_qq)]
    · have h1 := ((liesF_new w (fun _ => 0) 24).alloc (.cells #[.int .u64 0, .int .u64 0, .int .u64 0, .int .u64 0, .int .u64 0, .int .u64 0, .int .u64 0, .int .u64 0] 24)).alloc (.stringIter s 0)
      have h2 := (liesF_new (w.alloc (.cells #[.int .u64 0, .int .u64 0, .int .u64 0, .int .u64 0, .int .u64 0, .int .u64 0, .int .u64 0, .int .u64 0] 24)) (fun _ => 0) 24).alloc (.stringIter s 0)
      rw [World.size_alloc] at h2
      have hb0 := below_allocs ((w.alloc (.cells #[.int .u64 0, .int .u64 0, .int .u64 0, .int .u64 0, .int .u64 0, .int .u64 0, .int .u64 0, .int .u64 0] 24)).alloc (.cells #[.int .u64 0, .int .u64 0, .int .u64 0, .int .u64 0, .int .u64 0, .int .u64 0, .int .u64 0, .int .u64 0] 24)) (.stringIter s 0)
      refine ReadSt.start w s _ h1 (fun i => ?_) h2 (fun i => ?_) ?_ (below_trans (below_trans (below_allocs _ _) (below_allocs _ _)) hb0)
      · exact (hb0.frozen (p := ⟨w.heap.size, i, none⟩) (by simp; omega)).trans (by simp [go_sem])
      · exact (hb0.frozen (p := ⟨w.heap.size + 1, i, none⟩) (by simp)).trans (by simp [go_sem])
      · have := World.iter_heap ((w.alloc (.cells #[.int .u64 0, .int .u64 0, .int .u64 0, .int .u64 0, .int .u64 0, .int .u64 0, .int .u64 0, .int .u64 0] 24)).alloc (.cells #[.int .u64 0, .int .u64 0, .int .u64 0, .int .u64 0, .int .u64 0, .int .u64 0, .int .u64 0, .int .u64 0] 24)) s 0
        simpa using this
  case round =>
    obtain ⟨pos, g, hpos, rfl, hgd, hst⟩ := hrel
    by_cases hp : pos < s.size
    · have hnx := Lib.run_next_any_at (P := Try.prog) wr (w.heap.size + 1 + 1) s pos 0 hst.out.it hp
      have HIP := hide (iterPos_of' hst.out.it)
      by_cases hhi : 128 ≤ byteN s pos
      · have hdh := decode_high s pos hp (by rw [byte_at s pos hp]; exact hhi)
        have HBAD : Hid (¬ goodN base s s.size) := fun h => by
          have := h pos hp
          rw [worth_high _ (by omega)] at this
          omega
        have hle := decode_le s pos
        generalize (Utf8.decode s pos).1 = rr at *
        generalize (Utf8.decode s pos).2 = st at *
        have HLE := hide (show (rr : Int) ≤ 2147483647 by omega)
        have HWH := hide (worth_high (rr : Int) (by omega))
        have HS2 := hide (hst.out.next (pos + st))
        have hbm : (base : Int) ≤ 18446744073709551615 := by omega
        clear hdh hle hhi
        have hr := HS2.out.lr.1
        have hrf := HS2.out.fr
        have hl := HS2.out.lr.2
        have HB := hide HS2.out.bel
        clear HS2 hst hgd
        go_wp2_with (go_at_call 59; refine (worth_any _ (by omega) HLE.out _).mono ?_; rintro e w' ⟨rfl, hw⟩; subst w'; rw [HWH.out])
        exact bodyPost_ret (v := .tuple #[.agg #[.int .u64 0, .int .u64 0, .int .u64 0, .int .u64 0, .int .u64 0, .int .u64 0, .int .u64 0, .int .u64 0], .int .i64 2]) (by simp [results, Try.results41, go_sem, hr, hl]) rfl ⟨⟨0, 2, by simp only [dgl_zero]; rfl, .inr (.inr ⟨HBAD.out, rfl, rfl⟩)⟩, below_set8 HB.out _ (by omega) _ _ _ _ _ _ _ _⟩
      · have hda := decode_ascii s pos hp (by rw [byte_at s pos hp]; omega)
        rw [byte_at s pos hp] at hda
        rw [hda] at hnx
        have HLE := hide (show ((byteN s pos : Nat) : Int) ≤ 2147483647 by omega)
        have HS2 := hide (hst.out.next (pos + 1))
        have HNUM := hide (show numN base s (pos + 1) = base * numN base s pos + worthN (byteN s pos) from rfl)
        have HGOOD : Hid (worthN (byteN s pos) < base → goodN base s (pos + 1)) := fun h i hi => by
          rcases Nat.lt_or_ge i pos with h2 | h2
          · exact hgd.out.1 i h2
          · have : i = pos := by omega
            rw [this]; exact h
        have HBAD : Hid (¬ worthN (byteN s pos) < base → ¬ goodN base s s.size) := fun h h2 => h (h2 pos hp)
        have HG2 := hide hgd.out.2
        clear hda hgd hst hhi
        generalize hd : worthN (byteN s pos) = d at *
        have HWH := hide hd
        clear hd
        generalize byteN s pos = bt at *
        by_cases hdb : d < base
        · have hdb' : ¬ (base : Int) ≤ (d : Int) := by omega
          have HGO := hide (HGOOD.out hdb)
          clear HGOOD HBAD
          by_cases hf : numN base s pos < QQ
          · have HG3 := hide (HG2.out hf)
            rw [decide_eq_true hf]
            rw [HG3.out] at HS2
            have HAP := hide (fun w => appended_any (numN base s pos) base d hf (by omega) (by omega) w)
            rw [← HNUM.out] at HAP
            have hca := HS2.out.la.1
            clear hf HG2
            go_wp2_with (go_at_call 59; refine (worth_any _ (by omega) HLE.out _).mono ?_; rintro e w' ⟨rfl, hw⟩; subst w'; rw [HWH.out])
            refine (HAP.out _).mono ?_
            rintro e w2 ⟨rfl, hb2⟩
            have HS3 := hide (HS2.out.below hb2)
            clear hb2 HS2 hca
            have hca := HS3.out.la.1
            have hfa := HS3.out.fa
            have hla := HS3.out.la.2
            go_wp2
            go_roundw
            case rel => exact ⟨pos + 1, dgl (numN base s (pos + 1)), by omega, rfl, ⟨HGO.out, fun _ => rfl⟩, HS3.out.set⟩
            case measure =>
              rw [iterPos_of' (HS3.out.set (g := dgl (numN base s (pos + 1)))).it, HIP.out]
              omega
          · have HN2 : Hid (¬ numN base s (pos + 1) < QQ) := by
              unfold Hid
              rw [HNUM.out]
              have : numN base s pos ≤ base * numN base s pos := Nat.le_mul_of_pos_left _ hb1
              omega
            rw [decide_eq_false hf]
            clear hf HG2
            go_wp2_with (go_at_call 59; refine (worth_any _ (by omega) HLE.out _).mono ?_; rintro e w' ⟨rfl, hw⟩; subst w'; rw [HWH.out])
            go_roundw
            case rel => exact ⟨pos + 1, g, by omega, by rw [decide_eq_false HN2.out], ⟨HGO.out, fun h => absurd h HN2.out⟩, HS2⟩
            case measure =>
              rw [iterPos_of' HS2.out.it, HIP.out]
              omega
        · have hdb' : (base : Int) ≤ (d : Int) := by omega
          have HBAD2 := hide (HBAD.out hdb)
          have hr := HS2.out.lr.1
          have hrf := HS2.out.fr
          have hl := HS2.out.lr.2
          have HB := hide HS2.out.bel
          clear HS2 HG2 HGOOD
          go_wp2_with (go_at_call 59; refine (worth_any _ (by omega) HLE.out _).mono ?_; rintro e w' ⟨rfl, hw⟩; subst w'; rw [HWH.out])
          exact bodyPost_ret (v := .tuple #[.agg #[.int .u64 0, .int .u64 0, .int .u64 0, .int .u64 0, .int .u64 0, .int .u64 0, .int .u64 0, .int .u64 0], .int .i64 2]) (by simp [results, Try.results41, go_sem, hr, hl]) rfl ⟨⟨0, 2, by simp only [dgl_zero]; rfl, .inr (.inr ⟨HBAD2.out, rfl, rfl⟩)⟩, below_set8 HB.out _ (by omega) _ _ _ _ _ _ _ _⟩
    · have hpe : pos = s.size := by omega
      subst hpe
      have hnx := Lib.run_next_end_at (P := Try.prog) wr (w.heap.size + 1 + 1) s s.size 0 hst.out.it (Nat.lt_irrefl _)
      have hr := hst.out.lr.1
      have hrf := hst.out.fr
      have hl := hst.out.lr.2
      have HB := hide hst.out.bel
      by_cases hf : numN base s s.size < QQ
      · rw [decide_eq_true hf]
        have hg := hgd.out.2 hf
        rw [hg] at hst
        have hca := hst.out.la.1
        have HGO := hide hgd.out.1
        have HF := hide hf
        clear hst hgd hg hf hp
        generalize hN : numN base s s.size = N at *
        have HN := hide hN
        clear hN
        go_wp2
        exact bodyPost_ret (v := .tuple #[.agg #[.int .u64 (dgl (N) 0 : Nat), .int .u64 (dgl (N) 1 : Nat), .int .u64 (dgl (N) 2 : Nat), .int .u64 (dgl (N) 3 : Nat), .int .u64 (dgl (N) 4 : Nat), .int .u64 (dgl (N) 5 : Nat), .int .u64 (dgl (N) 6 : Nat), .int .u64 (dgl (N) 7 : Nat)], .int .i64 0]) (by simp [results, Try.results41, go_sem, hr, hl]) rfl ⟨⟨N, 0, rfl, .inl ⟨HGO.out, by rw [HN.out]; exact HF.out, HN.out.symm, rfl⟩⟩, below_set8 HB.out _ (by omega) _ _ _ _ _ _ _ _⟩
      · rw [decide_eq_false hf]
        have HGO := hide hgd.out.1
        have HF := hide (Nat.le_of_not_lt hf)
        clear hst hgd hf hp
        go_wp2
        exact bodyPost_ret (v := .tuple #[.agg #[.int .u64 0, .int .u64 0, .int .u64 0, .int .u64 0, .int .u64 0, .int .u64 0, .int .u64 0, .int .u64 0], .int .i64 4]) (by simp [results, Try.results41, go_sem, hr, hl]) rfl ⟨⟨0, 4, by simp only [dgl_zero]; rfl, .inr (.inl ⟨HGO.out, HF.out, rfl, rfl⟩)⟩, below_set8 HB.out _ (by omega) _ _ _ _ _ _ _ _⟩

end Go.Proofs.Ytjklehlkgccmnaa

/- Contracts: digits.number, ParseHex, ParseDecimal. -/
set_option linter.unusedVariables false
set_option linter.unusedSimpArgs false
set_option maxRecDepth 8000
namespace Go.Proofs.Ytjklehlkgccmnaa
open Go.RowKit Plain

/-- What digits.read, number and their callers answer of a text. -/
def Told (ok : Prop) (base : Nat) (s : ByteArray) (x : Nat) (c : Int) : Prop :=
  (ok ∧ numN base s s.size < QQ ∧ x = numN base s s.size ∧ c = 0) ∨ (ok ∧ QQ ≤ numN base s s.size ∧ x = 0 ∧ c = 4) ∨ (¬ ok ∧ x = 0 ∧ c = 2)
/-- A number's text: digits, without a needless 0 at the front. -/
def plainN (base : Nat) (s : ByteArray) : Prop := 0 < s.size ∧ goodN base s s.size ∧ (byteN s 0 ≠ 48 ∨ s.size = 1)

theorem empty_iff (s : ByteArray) : s.toList.isEmpty = decide (s.size = 0) := by
  rw [← decide_eq_emptyBytes, decide_eq_decide]
  constructor
  · intro h; rw [h]; rfl
  · intro h
    cases s with
    | mk data => rw [Array.eq_empty_of_size_eq_zero (show data.size = 0 from h)]; rfl

theorem told_ex (ok : Prop) (base : Nat) (s : ByteArray) : ∃ x c, Told ok base s x c := by
  by_cases h : ok
  · by_cases h2 : numN base s s.size < QQ
    · exact ⟨_, _, .inl ⟨h, h2, rfl, rfl⟩⟩
    · exact ⟨_, _, .inr (.inl ⟨h, Nat.le_of_not_lt h2, rfl, rfl⟩)⟩
  · exact ⟨_, _, .inr (.inr ⟨h, rfl, rfl⟩)⟩
theorem told_fun {ok : Prop} {base : Nat} {s : ByteArray} {x y : Nat} {c d : Int} (h1 : Told ok base s x c) (h2 : Told ok base s y d) : x = y ∧ c = d := by
  rcases h1 with ⟨a, b, rfl, rfl⟩ | ⟨a, b, rfl, rfl⟩ | ⟨a, rfl, rfl⟩ <;> rcases h2 with ⟨a', b', rfl, rfl⟩ | ⟨a', b', rfl, rfl⟩ | ⟨a', rfl, rfl⟩
  · exact ⟨rfl, rfl⟩
  · omega
  · exact absurd a a'
  · omega
  · exact ⟨rfl, rfl⟩
  · exact absurd a a'
  · exact absurd a' a
  · exact absurd a' a
  · exact ⟨rfl, rfl⟩
theorem read_fix (s : ByteArray) (base x : Nat) (c : Int) (hb1 : 1 ≤ base) (hb2 : base ≤ 16) (hs : s.size ≤ 4611686018427387904) (hT : Told (goodN base s s.size) base s x c) (w : World) :
    Calls Try.prog 41 #[.string s, .int .u64 (base : Nat)] w fun e w' => e = .returned (.tuple #[.agg #[.int .u64 (dgl (x) 0 : Nat), .int .u64 (dgl (x) 1 : Nat), .int .u64 (dgl (x) 2 : Nat), .int .u64 (dgl (x) 3 : Nat), .int .u64 (dgl (x) 4 : Nat), .int .u64 (dgl (x) 5 : Nat), .int .u64 (dgl (x) 6 : Nat), .int .u64 (dgl (x) 7 : Nat)], .int .i64 c]) ∧ Below w.heap.size w w' := by
  refine (read_any s base hb1 hb2 hs w).mono ?_
  rintro e w' ⟨⟨y, d, rfl, h⟩, hb⟩
  obtain ⟨rfl, rfl⟩ := told_fun hT h
  exact ⟨rfl, hb⟩

set_option maxHeartbeats 1000000 in
theorem number_bad (s : ByteArray) (base : Nat) (hs : s.size ≤ 4611686018427387904) (h : s.size = 0 ∨ (1 < s.size ∧ byteN s 0 = 48)) (w : World) :
    Calls Try.prog 27 #[.string s, .int .u64 (base : Nat)] w fun e w' => e = .returned (.tuple #[.agg #[.int .u64 0, .int .u64 0, .int .u64 0, .int .u64 0, .int .u64 0, .int .u64 0, .int .u64 0, .int .u64 0], .int .i64 2]) ∧ Below w.heap.size w w' := by
  have hs' : (s.size : Int) ≤ 4611686018427387904 := by omega
  have hE := empty_iff s
  rcases h with h | ⟨h, hz⟩
  · rw [decide_eq_true h] at hE
    clear h hs
    go_enter Try.func27, Try.ntmps27
    go_wp2
    exact bodyPost_ret (v := .tuple #[.agg #[.int .u64 0, .int .u64 0, .int .u64 0, .int .u64 0, .int .u64 0, .int .u64 0, .int .u64 0, .int .u64 0], .int .i64 2]) (by simp [results, Try.results27, go_sem]) rfl ⟨rfl, below_allocs _ _⟩
  · rw [decide_eq_false (by omega)] at hE
    have h1' : (1 : Int) < (s.size : Int) := by omega
    have hsz : 0 < s.size := by omega
    have h48 : (((s[0]'hsz).toNat : Int) == 48) = true := by rw [byte_at s 0 hsz, hz]; rfl
    clear h hs
    go_enter Try.func27, Try.ntmps27
    go_wp2
    exact bodyPost_ret (v := .tuple #[.agg #[.int .u64 0, .int .u64 0, .int .u64 0, .int .u64 0, .int .u64 0, .int .u64 0, .int .u64 0, .int .u64 0], .int .i64 2]) (by simp [results, Try.results27, go_sem]) rfl ⟨rfl, below_allocs _ _⟩

set_option maxHeartbeats 1000000 in
theorem number_good (s : ByteArray) (base x : Nat) (c : Int) (hs : s.size ≤ 4611686018427387904) (h : s.size = 1 ∨ (1 < s.size ∧ byteN s 0 ≠ 48)) (w : World) (HR : Hid (∀ w, Calls Try.prog 41 #[.string s, .int .u64 (base : Nat)] w fun e w' => e = .returned (.tuple #[.agg #[.int .u64 (dgl (x) 0 : Nat), .int .u64 (dgl (x) 1 : Nat), .int .u64 (dgl (x) 2 : Nat), .int .u64 (dgl (x) 3 : Nat), .int .u64 (dgl (x) 4 : Nat), .int .u64 (dgl (x) 5 : Nat), .int .u64 (dgl (x) 6 : Nat), .int .u64 (dgl (x) 7 : Nat)], .int .i64 c]) ∧ Below w.heap.size w w')) :
    Calls Try.prog 27 #[.string s, .int .u64 (base : Nat)] w fun e w' => e = .returned (.tuple #[.agg #[.int .u64 (dgl (x) 0 : Nat), .int .u64 (dgl (x) 1 : Nat), .int .u64 (dgl (x) 2 : Nat), .int .u64 (dgl (x) 3 : Nat), .int .u64 (dgl (x) 4 : Nat), .int .u64 (dgl (x) 5 : Nat), .int .u64 (dgl (x) 6 : Nat), .int .u64 (dgl (x) 7 : Nat)], .int .i64 c]) ∧ Below w.heap.size w w' := by
  have hs' : (s.size : Int) ≤ 4611686018427387904 := by omega
  have hE := empty_iff s
  rw [decide_eq_false (by omega)] at hE
  have hsz : 0 < s.size := by omega
  have HL := hide (liesF_new w (fun _ => 0) 24)
  have HB0 := hide (below_allocs w (.cells #[.int .u64 0, .int .u64 0, .int .u64 0, .int .u64 0, .int .u64 0, .int .u64 0, .int .u64 0, .int .u64 0] 24))
  have HF := hide (fun i => (by simp [go_sem] : (w.alloc (.cells #[.int .u64 0, .int .u64 0, .int .u64 0, .int .u64 0, .int .u64 0, .int .u64 0, .int .u64 0, .int .u64 0] 24)).frozen? ⟨w.heap.size, i, none⟩ = false))
  rcases h with h | ⟨h, hz⟩
  · have h1' : ¬ (1 : Int) < (s.size : Int) := by omega
    clear h hs
    go_enter Try.func27, Try.ntmps27
    go_wp2_with fail
    refine (HR.out _).mono ?_
    rintro e w1 ⟨rfl, hb1⟩
    obtain ⟨hr, hrf, hl⟩ := res_box hb1
    have HB := hide (below_alloc_then hb1)
    clear hb1
    go_wp2
    exact bodyPost_ret (v := .tuple #[.agg #[.int .u64 (dgl (x) 0 : Nat), .int .u64 (dgl (x) 1 : Nat), .int .u64 (dgl (x) 2 : Nat), .int .u64 (dgl (x) 3 : Nat), .int .u64 (dgl (x) 4 : Nat), .int .u64 (dgl (x) 5 : Nat), .int .u64 (dgl (x) 6 : Nat), .int .u64 (dgl (x) 7 : Nat)], .int .i64 c]) (by simp [results, Try.results27, go_sem, hr, hl]) rfl ⟨rfl, below_set8 HB.out _ (by omega) _ _ _ _ _ _ _ _⟩
  · have h1' : (1 : Int) < (s.size : Int) := by omega
    have h48 : (((s[0]'hsz).toNat : Int) == 48) = false := by rw [byte_at s 0 hsz, beq_eq_false_iff_ne]; omega
    clear h hs
    go_enter Try.func27, Try.ntmps27
    go_wp2_with fail
    refine (HR.out _).mono ?_
    rintro e w1 ⟨rfl, hb1⟩
    obtain ⟨hr, hrf, hl⟩ := res_box hb1
    have HB := hide (below_alloc_then hb1)
    clear hb1
    go_wp2
    exact bodyPost_ret (v := .tuple #[.agg #[.int .u64 (dgl (x) 0 : Nat), .int .u64 (dgl (x) 1 : Nat), .int .u64 (dgl (x) 2 : Nat), .int .u64 (dgl (x) 3 : Nat), .int .u64 (dgl (x) 4 : Nat), .int .u64 (dgl (x) 5 : Nat), .int .u64 (dgl (x) 6 : Nat), .int .u64 (dgl (x) 7 : Nat)], .int .i64 c]) (by simp [results, Try.results27, go_sem, hr, hl]) rfl ⟨rfl, below_set8 HB.out _ (by omega) _ _ _ _ _ _ _ _⟩

theorem number_any (s : ByteArray) (base x : Nat) (c : Int) (hb1 : 1 ≤ base) (hb2 : base ≤ 16) (hs : s.size ≤ 4611686018427387904) (hT : Told (plainN base s) base s x c) (w : World) :
    Calls Try.prog 27 #[.string s, .int .u64 (base : Nat)] w fun e w' => e = .returned (.tuple #[.agg #[.int .u64 (dgl (x) 0 : Nat), .int .u64 (dgl (x) 1 : Nat), .int .u64 (dgl (x) 2 : Nat), .int .u64 (dgl (x) 3 : Nat), .int .u64 (dgl (x) 4 : Nat), .int .u64 (dgl (x) 5 : Nat), .int .u64 (dgl (x) 6 : Nat), .int .u64 (dgl (x) 7 : Nat)], .int .i64 c]) ∧ Below w.heap.size w w' := by
  by_cases hbad : s.size = 0 ∨ (1 < s.size ∧ byteN s 0 = 48)
  · have hnp : ¬ plainN base s := by
      rintro ⟨h1, h2, h3⟩
      rcases hbad with h | ⟨h, h4⟩
      · omega
      · rcases h3 with h5 | h5
        · exact h5 h4
        · omega
    rcases hT with ⟨a, _⟩ | ⟨a, _⟩ | ⟨_, rfl, rfl⟩
    · exact absurd a hnp
    · exact absurd a hnp
    · have h := number_bad s base hs hbad w
      simp only [dgl_zero]
      exact h
  · have hgood : s.size = 1 ∨ (1 < s.size ∧ byteN s 0 ≠ 48) := by
      by_cases h1 : s.size = 1
      · exact .inl h1
      · refine .inr ⟨by omega, fun h => hbad (.inr ⟨by omega, h⟩)⟩
    have hpg : plainN base s ↔ goodN base s s.size := by
      constructor
      · exact fun h => h.2.1
      · intro h
        refine ⟨by omega, h, ?_⟩
        rcases hgood with h1 | h1
        · exact .inr h1
        · exact .inl h1.2
    have hT2 : Told (goodN base s s.size) base s x c := by
      unfold Told at hT ⊢
      rw [← hpg]; exact hT
    exact number_good s base x c hs hgood w (fun w => read_fix s base x c hb1 hb2 hs hT2 w)

set_option maxHeartbeats 400000 in
theorem parseHex_any (s : ByteArray) (x : Nat) (c : Int) (hs : s.size ≤ 4611686018427387904) (hT : Told (plainN 16 s) 16 s x c) (w : World) :
    Calls Try.prog 9 #[.string s] w fun e w' => e = .returned (.tuple #[.agg #[.int .u64 (dgl (x) 0 : Nat), .int .u64 (dgl (x) 1 : Nat), .int .u64 (dgl (x) 2 : Nat), .int .u64 (dgl (x) 3 : Nat), .int .u64 (dgl (x) 4 : Nat), .int .u64 (dgl (x) 5 : Nat), .int .u64 (dgl (x) 6 : Nat), .int .u64 (dgl (x) 7 : Nat)], .int .i64 c]) ∧ Below w.heap.size w w' := by
  have HN : Hid (∀ w, Calls Try.prog 27 #[.string s, .int .u64 16] w fun e w' => e = .returned (.tuple #[.agg #[.int .u64 (dgl (x) 0 : Nat), .int .u64 (dgl (x) 1 : Nat), .int .u64 (dgl (x) 2 : Nat), .int .u64 (dgl (x) 3 : Nat), .int .u64 (dgl (x) 4 : Nat), .int .u64 (dgl (x) 5 : Nat), .int .u64 (dgl (x) 6 : Nat), .int .u64 (dgl (x) 7 : Nat)], .int .i64 c]) ∧ Below w.heap.size w w') := fun w => number_any s 16 x c (by decide) (by decide) hs hT w
  clear hT
  go_enter Try.func9, Try.ntmps9
  go_wp2_with fail
  refine (HN.out _).mono ?_
  rintro e w1 ⟨rfl, hb1⟩
  obtain ⟨hr, hrf, hl⟩ := res_box hb1
  have HB := hide (below_alloc_then hb1)
  clear hb1
  go_wp2
  exact bodyPost_ret (v := .tuple #[.agg #[.int .u64 (dgl (x) 0 : Nat), .int .u64 (dgl (x) 1 : Nat), .int .u64 (dgl (x) 2 : Nat), .int .u64 (dgl (x) 3 : Nat), .int .u64 (dgl (x) 4 : Nat), .int .u64 (dgl (x) 5 : Nat), .int .u64 (dgl (x) 6 : Nat), .int .u64 (dgl (x) 7 : Nat)], .int .i64 c]) (by simp [results, Try.results9, go_sem, hr, hl]) rfl ⟨rfl, below_set8 HB.out _ (by omega) _ _ _ _ _ _ _ _⟩

set_option maxHeartbeats 400000 in
theorem parseDecimal_any (s : ByteArray) (x : Nat) (c : Int) (hs : s.size ≤ 4611686018427387904) (hT : Told (plainN 10 s) 10 s x c) (w : World) :
    Calls Try.prog 15 #[.string s] w fun e w' => e = .returned (.tuple #[.agg #[.int .u64 (dgl (x) 0 : Nat), .int .u64 (dgl (x) 1 : Nat), .int .u64 (dgl (x) 2 : Nat), .int .u64 (dgl (x) 3 : Nat), .int .u64 (dgl (x) 4 : Nat), .int .u64 (dgl (x) 5 : Nat), .int .u64 (dgl (x) 6 : Nat), .int .u64 (dgl (x) 7 : Nat)], .int .i64 c]) ∧ Below w.heap.size w w' := by
  have HN : Hid (∀ w, Calls Try.prog 27 #[.string s, .int .u64 10] w fun e w' => e = .returned (.tuple #[.agg #[.int .u64 (dgl (x) 0 : Nat), .int .u64 (dgl (x) 1 : Nat), .int .u64 (dgl (x) 2 : Nat), .int .u64 (dgl (x) 3 : Nat), .int .u64 (dgl (x) 4 : Nat), .int .u64 (dgl (x) 5 : Nat), .int .u64 (dgl (x) 6 : Nat), .int .u64 (dgl (x) 7 : Nat)], .int .i64 c]) ∧ Below w.heap.size w w') := fun w => number_any s 10 x c (by decide) (by decide) hs hT w
  clear hT
  go_enter Try.func15, Try.ntmps15
  go_wp2_with fail
  refine (HN.out _).mono ?_
  rintro e w1 ⟨rfl, hb1⟩
  obtain ⟨hr, hrf, hl⟩ := res_box hb1
  have HB := hide (below_alloc_then hb1)
  clear hb1
  go_wp2
  exact bodyPost_ret (v := .tuple #[.agg #[.int .u64 (dgl (x) 0 : Nat), .int .u64 (dgl (x) 1 : Nat), .int .u64 (dgl (x) 2 : Nat), .int .u64 (dgl (x) 3 : Nat), .int .u64 (dgl (x) 4 : Nat), .int .u64 (dgl (x) 5 : Nat), .int .u64 (dgl (x) 6 : Nat), .int .u64 (dgl (x) 7 : Nat)], .int .i64 c]) (by simp [results, Try.results15, go_sem, hr, hl]) rfl ⟨rfl, below_set8 HB.out _ (by omega) _ _ _ _ _ _ _ _⟩

end Go.Proofs.Ytjklehlkgccmnaa

/- Contracts: radicandref04.digit, plain. -/
set_option linter.unusedVariables false
set_option linter.unusedSimpArgs false
set_option maxRecDepth 8000
namespace Go.Proofs.Ytjklehlkgccmnaa
open Go.RowKit Plain

/-- What radicandref04.digit answers. -/
def refDig (b base : Nat) : Int := if worthN (b : Nat) < base then (worthN (b : Nat) : Int) else -1
theorem refDig_neg (b base : Nat) : decide (refDig b base < 0) = decide (¬ worthN (b : Nat) < base) := by
  unfold refDig
  rw [decide_eq_decide]
  split
  · constructor
    · intro h; omega
    · intro h; contradiction
  · constructor
    · intro h; assumption
    · intro h; omega

set_option maxHeartbeats 2000000 in
theorem ref4Digit_any (b base : Nat) (hb : b < 256) (h1 : 1 ≤ base) (h2 : base ≤ 16) (w : World) :
    Calls Try.prog 38 #[.int .u8 (b : Nat), .int .i64 (base : Nat)] w fun e w' => e = .returned (.int .i64 (refDig b base)) ∧ w' = w := by
  by_cases hA : 48 ≤ b ∧ b ≤ 57
  · have e1 : worthN (b : Nat) = b - 48 := by unfold worthN; rw [if_pos (by omega)]; omega
    by_cases hd : b - 48 < base
    · have HD : Hid (refDig b base = (b : Int) - 48) := by unfold Hid refDig; rw [e1, if_pos hd]; omega
      have j1 : (48 : Int) ≤ (b : Int) := by omega
      have j2 : (b : Int) ≤ 57 := by omega
      have j3 : ¬ (97 : Int) ≤ (b : Int) := by omega
      have j4 : ¬ (base : Int) ≤ (b : Int) - 48 := by omega
      clear hA hd e1
      go_enter Try.func38, Try.ntmps38
      go_wp2
      go_ret
      exact ⟨ret_int HD.out.symm, rfl⟩
    · have HD : Hid (refDig b base = -1) := by unfold Hid refDig; rw [e1, if_neg hd]
      have j1 : (48 : Int) ≤ (b : Int) := by omega
      have j2 : (b : Int) ≤ 57 := by omega
      have j3 : ¬ (97 : Int) ≤ (b : Int) := by omega
      have j4 : (base : Int) ≤ (b : Int) - 48 := by omega
      clear hA hd e1
      go_enter Try.func38, Try.ntmps38
      go_wp2
      go_ret
      exact ⟨ret_int HD.out.symm, rfl⟩
  · by_cases hB : 97 ≤ b ∧ b ≤ 102
    · have e1 : worthN (b : Nat) = b - 87 := by unfold worthN; rw [if_neg (by omega), if_pos (by omega)]; omega
      by_cases hd : b - 87 < base
      · have HD : Hid (refDig b base = (b : Int) - 97 + 10) := by unfold Hid refDig; rw [e1, if_pos hd]; omega
        have j1 : (48 : Int) ≤ (b : Int) := by omega
        have j2 : ¬ (b : Int) ≤ 57 := by omega
        have j3 : (97 : Int) ≤ (b : Int) := by omega
        have j5 : (b : Int) ≤ 102 := by omega
        have j4 : ¬ (base : Int) ≤ (b : Int) - 97 + 10 := by omega
        clear hA hB hd e1
        go_enter Try.func38, Try.ntmps38
        go_wp2
        go_ret
        exact ⟨ret_int HD.out.symm, rfl⟩
      · have HD : Hid (refDig b base = -1) := by unfold Hid refDig; rw [e1, if_neg hd]
        have j1 : (48 : Int) ≤ (b : Int) := by omega
        have j2 : ¬ (b : Int) ≤ 57 := by omega
        have j3 : (97 : Int) ≤ (b : Int) := by omega
        have j5 : (b : Int) ≤ 102 := by omega
        have j4 : (base : Int) ≤ (b : Int) - 97 + 10 := by omega
        clear hA hB hd e1
        go_enter Try.func38, Try.ntmps38
        go_wp2
        go_ret
        exact ⟨ret_int HD.out.symm, rfl⟩
    · have e1 : worthN (b : Nat) = 18446744073709551615 := by unfold worthN; rw [if_neg (by omega), if_neg (by omega)]
      have HD : Hid (refDig b base = -1) := by unfold Hid refDig; rw [e1, if_neg (by omega)]
      have j4 : ¬ (base : Int) ≤ -1 := by omega
      clear e1
      by_cases k1 : 48 ≤ b
      · have j1 : (48 : Int) ≤ (b : Int) := by omega
        have j2 : ¬ (b : Int) ≤ 57 := by omega
        by_cases k3 : 97 ≤ b
        · have j3 : (97 : Int) ≤ (b : Int) := by omega
          have j5 : ¬ (b : Int) ≤ 102 := by omega
          clear hA hB k1 k3
          go_enter Try.func38, Try.ntmps38
          go_wp2
          go_ret
          exact ⟨ret_int HD.out.symm, rfl⟩
        · have j3 : ¬ (97 : Int) ≤ (b : Int) := by omega
          clear hA hB k1 k3
          go_enter Try.func38, Try.ntmps38
          go_wp2
          go_ret
          exact ⟨ret_int HD.out.symm, rfl⟩
      · have j1 : ¬ (48 : Int) ≤ (b : Int) := by omega
        have j3 : ¬ (97 : Int) ≤ (b : Int) := by omega
        clear hA hB k1
        go_enter Try.func38, Try.ntmps38
        go_wp2
        go_ret
        exact ⟨ret_int HD.out.symm, rfl⟩

set_option maxHeartbeats 2000000 in
theorem ref4Plain_any (s : ByteArray) (base : Nat) (h1 : 1 ≤ base) (h2 : base ≤ 16) (hs : s.size ≤ 4611686018427387904) (bb : Bool) (hbb : Hid (bb = true ↔ plainN base s)) (w : World) :
    Calls Try.prog 36 #[.string s, .int .i64 (base : Nat)] w fun e w' => e = .returned (.bool bb) ∧ w' = w := by
  have HF : Hid (¬ plainN base s → bb = false) := fun hn => Bool.eq_false_iff.mpr fun h => hn (hbb.out.mp h)
  have HT : Hid (plainN base s → bb = true) := fun hp => hbb.out.mpr hp
  clear hbb
  have hs' : (s.size : Int) ≤ 4611686018427387904 := by omega
  go_enter Try.func36, Try.ntmps36
  go_wp2
  go_loop [5] (fun i => ∃ k : Nat, k ≤ s.size ∧ i = .int .i64 k ∧ Hid (goodN base s k)) (fun i => s.size - (intOf i).toNat)
  case atStart => exact ⟨0, Nat.zero_le _, rfl, fun i hi => absurd hi (Nat.not_lt_zero _)⟩
  case round =>
    obtain ⟨k, hk, rfl, hg⟩ := hrel
    by_cases hlt : k < s.size
    · have hj : (k : Int) < (s.size : Int) := by omega
      have hb256 : byteN s k < 256 := (s.get! k).toNat_lt
      have hbt := byte_at s k hlt
      have HC := hide (fun w => ref4Digit_any (byteN s k) base hb256 h1 h2 w)
      by_cases hd : worthN (byteN s k) < base
      · have HD : Hid (refDig (byteN s k) base = (worthN (byteN s k) : Int)) := by unfold Hid refDig; rw [if_pos hd]
        have HG : Hid (goodN base s (k + 1)) := fun i hi => by
          rcases Nat.lt_or_ge i k with h3 | h3
          · exact hg.out i h3
          · have : i = k := by omega
            rw [this]; exact hd
        have hnn : ¬ ((worthN (byteN s k) : Nat) : Int) < 0 := by omega
        rw [HD.out] at HC
        generalize worthN ((byteN s k : Nat) : Int) = d at *
        clear hd hg HD hb256
        go_wp2_with (go_at_call 38; refine (HC.out _).mono ?_; rintro e w' ⟨rfl, hw⟩; subst w')
        go_round
        case rel => exact ⟨k + 1, by omega, by go_num, HG⟩
        case measure => simp [intOf]; omega
      · have HD : Hid (refDig (byteN s k) base = -1) := by unfold Hid refDig; rw [if_neg hd]
        have HB : Hid (¬ plainN base s) := fun h => hd (h.2.1 k hlt)
        rw [HD.out] at HC
        clear hd hg HD hb256
        go_wp2_with (go_at_call 38; refine (HC.out _).mono ?_; rintro e w' ⟨rfl, hw⟩; subst w')
        go_ret
        exact ⟨ret_bool (HF.out HB.out).symm, rfl⟩
    · have hke : k = s.size := by omega
      subst hke
      have hj : ¬ (s.size : Int) < (s.size : Int) := by omega
      by_cases h0 : s.size = 0
      · have j0 : ¬ (0 : Int) < (s.size : Int) := by omega
        have HB : Hid (¬ plainN base s) := fun h => by have := h.1; omega
        clear h0 hg hlt
        go_wp2
        go_ret
        exact ⟨ret_bool (HF.out HB.out).symm, rfl⟩
      · have hsz : 0 < s.size := by omega
        have j0 : (0 : Int) < (s.size : Int) := by omega
        have hbt := byte_at s 0 hsz
        by_cases hz : byteN s 0 = 48
        · have h48 : (((byteN s 0 : Nat) : Int) != 48) = false := by rw [hz]; rfl
          by_cases hone : s.size = 1
          · have j1 : ((s.size : Int) == 1) = true := by rw [hone]; rfl
            have HP : Hid (plainN base s) := ⟨hsz, hg.out, .inr hone⟩
            clear h0 hg hlt hz hone
            go_wp2
            go_ret
            exact ⟨ret_bool (HT.out HP.out).symm, rfl⟩
          · have j1 : ((s.size : Int) == 1) = false := by rw [beq_eq_false_iff_ne]; omega
            have HB : Hid (¬ plainN base s) := fun h => by
              rcases h.2.2 with h3 | h3
              · exact h3 hz
              · exact hone h3
            clear h0 hg hlt hz hone
            go_wp2
            go_ret
            exact ⟨ret_bool (HF.out HB.out).symm, rfl⟩
        · have h48 : (((byteN s 0 : Nat) : Int) != 48) = true := by rw [bne_iff_ne]; omega
          have HP : Hid (plainN base s) := ⟨hsz, hg.out, .inl hz⟩
          clear h0 hg hlt hz
          go_wp2
          go_ret
          exact ⟨ret_bool (HT.out HP.out).symm, rfl⟩

end Go.Proofs.Ytjklehlkgccmnaa

/- Contracts: digits.taken. -/
set_option linter.unusedVariables false
set_option linter.unusedSimpArgs false
set_option maxRecDepth 8000
namespace Go.Proofs.Ytjklehlkgccmnaa
open Go.RowKit Plain

structure TakSt (w : World) (fa fb : Nat → Nat) (W : World) : Prop where
  la : LiesF W w.heap.size fa
  ffa : ∀ i, W.frozen? ⟨w.heap.size, i, none⟩ = false
  lb : LiesF W (w.heap.size + 1) fb
  lr : LiesF W (w.heap.size + 1 + 1) (fun _ => 0)
  ffr : ∀ i, W.frozen? ⟨w.heap.size + 1 + 1, i, none⟩ = false
  bel : Below w.heap.size w W
theorem TakSt.below {w : World} {fa fb : Nat → Nat} {W W' : World} (h : TakSt w fa fb W) (hb : Below W.heap.size W W') : TakSt w fa fb W' :=
  ⟨h.la.below hb, fun i => (hb.frozen (p := ⟨w.heap.size, i, none⟩) h.la.2).trans (h.ffa i), h.lb.below hb, h.lr.below hb, fun i => (hb.frozen (p := ⟨w.heap.size + 1 + 1, i, none⟩) h.lr.2).trans (h.ffr i), below_trans h.bel hb⟩
theorem TakSt.set {w : World} {fa fb g : Nat → Nat} {W : World} (h : TakSt w fa fb W) : TakSt w g fb ((((((((W.setCell ⟨w.heap.size, 0, none⟩ (.int .u64 (g 0 : Nat))).setCell ⟨w.heap.size, 1, none⟩ (.int .u64 (g 1 : Nat))).setCell ⟨w.heap.size, 2, none⟩ (.int .u64 (g 2 : Nat))).setCell ⟨w.heap.size, 3, none⟩ (.int .u64 (g 3 : Nat))).setCell ⟨w.heap.size, 4, none⟩ (.int .u64 (g 4 : Nat))).setCell ⟨w.heap.size, 5, none⟩ (.int .u64 (g 5 : Nat))).setCell ⟨w.heap.size, 6, none⟩ (.int .u64 (g 6 : Nat))).setCell ⟨w.heap.size, 7, none⟩ (.int .u64 (g 7 : Nat))) :=
  ⟨set8_same W _ g fa h.la, fun i => by simpa [go_sem] using h.ffa i, lies_ne h.lb (by omega), lies_ne h.lr (by omega), fun i => by simpa [go_sem] using h.ffr i, below_set8 h.bel _ (Nat.le_refl _) _ _ _ _ _ _ _ _⟩
theorem TakSt.start (w : World) (fa fb : Nat → Nat) : TakSt w fa fb (((w.alloc (.cells #[.int .u64 (fa 0 : Nat), .int .u64 (fa 1 : Nat), .int .u64 (fa 2 : Nat), .int .u64 (fa 3 : Nat), .int .u64 (fa 4 : Nat), .int .u64 (fa 5 : Nat), .int .u64 (fa 6 : Nat), .int .u64 (fa 7 : Nat)] 24)).alloc (.cells #[.int .u64 (fb 0 : Nat), .int .u64 (fb 1 : Nat), .int .u64 (fb 2 : Nat), .int .u64 (fb 3 : Nat), .int .u64 (fb 4 : Nat), .int .u64 (fb 5 : Nat), .int .u64 (fb 6 : Nat), .int .u64 (fb 7 : Nat)] 24)).alloc (.cells #[.int .u64 0, .int .u64 0, .int .u64 0, .int .u64 0, .int .u64 0, .int .u64 0, .int .u64 0, .int .u64 0] 24)) := by
  have h1 := ((liesF_new w fa 24).alloc (.cells #[.int .u64 (fb 0 : Nat), .int .u64 (fb 1 : Nat), .int .u64 (fb 2 : Nat), .int .u64 (fb 3 : Nat), .int .u64 (fb 4 : Nat), .int .u64 (fb 5 : Nat), .int .u64 (fb 6 : Nat), .int .u64 (fb 7 : Nat)] 24)).alloc (.cells #[.int .u64 0, .int .u64 0, .int .u64 0, .int .u64 0, .int .u64 0, .int .u64 0, .int .u64 0, .int .u64 0] 24)
  have h2 := (liesF_new (w.alloc (.cells #[.int .u64 (fa 0 : Nat), .int .u64 (fa 1 : Nat), .int .u64 (fa 2 : Nat), .int .u64 (fa 3 : Nat), .int .u64 (fa 4 : Nat), .int .u64 (fa 5 : Nat), .int .u64 (fa 6 : Nat), .int .u64 (fa 7 : Nat)] 24)) fb 24).alloc (.cells #[.int .u64 0, .int .u64 0, .int .u64 0, .int .u64 0, .int .u64 0, .int .u64 0, .int .u64 0, .int .u64 0] 24)
  have h3 := liesF_new ((w.alloc (.cells #[.int .u64 (fa 0 : Nat), .int .u64 (fa 1 : Nat), .int .u64 (fa 2 : Nat), .int .u64 (fa 3 : Nat), .int .u64 (fa 4 : Nat), .int .u64 (fa 5 : Nat), .int .u64 (fa 6 : Nat), .int .u64 (fa 7 : Nat)] 24)).alloc (.cells #[.int .u64 (fb 0 : Nat), .int .u64 (fb 1 : Nat), .int .u64 (fb 2 : Nat), .int .u64 (fb 3 : Nat), .int .u64 (fb 4 : Nat), .int .u64 (fb 5 : Nat), .int .u64 (fb 6 : Nat), .int .u64 (fb 7 : Nat)] 24)) (fun _ => 0) 24
  rw [World.size_alloc] at h2
  rw [World.size_alloc, World.size_alloc] at h3
  exact ⟨h1, fun i => by simp [go_sem], h2, h3, fun i => by simp [go_sem], below_trans (below_trans (below_allocs _ _) (below_allocs _ _)) (below_allocs _ _)⟩

theorem cmp_ge {n m : Nat} (h : m ≤ n) : 0 ≤ cmpN n m := by
  unfold cmpN
  rw [if_neg (by omega)]
  split <;> decide
theorem cmp_less {n m : Nat} (h : n < m) : ¬ 0 ≤ cmpN n m := by
  unfold cmpN
  rw [if_pos h]
  decide

set_option maxHeartbeats 4000000 in
theorem taken_any (a v : Nat) (ha : a < QQ) (hv : v < QQ) (hv0 : 0 < v) (hq : a / v ≤ 4611686018427387904) (w : World) :
    Calls Try.prog 35 #[.agg #[.int .u64 (dgl (a) 0 : Nat), .int .u64 (dgl (a) 1 : Nat), .int .u64 (dgl (a) 2 : Nat), .int .u64 (dgl (a) 3 : Nat), .int .u64 (dgl (a) 4 : Nat), .int .u64 (dgl (a) 5 : Nat), .int .u64 (dgl (a) 6 : Nat), .int .u64 (dgl (a) 7 : Nat)], .agg #[.int .u64 (dgl (v) 0 : Nat), .int .u64 (dgl (v) 1 : Nat), .int .u64 (dgl (v) 2 : Nat), .int .u64 (dgl (v) 3 : Nat), .int .u64 (dgl (v) 4 : Nat), .int .u64 (dgl (v) 5 : Nat), .int .u64 (dgl (v) 6 : Nat), .int .u64 (dgl (v) 7 : Nat)]] w fun e w' => e = .returned (.tuple #[.int .i64 ((a / v : Nat) : Int), .agg #[.int .u64 (dgl (a % v) 0 : Nat), .int .u64 (dgl (a % v) 1 : Nat), .int .u64 (dgl (a % v) 2 : Nat), .int .u64 (dgl (a % v) 3 : Nat), .int .u64 (dgl (a % v) 4 : Nat), .int .u64 (dgl (a % v) 5 : Nat), .int .u64 (dgl (a % v) 6 : Nat), .int .u64 (dgl (a % v) 7 : Nat)]]) ∧ Below w.heap.size w w' := by
  have HST := hide (TakSt.start w (dgl a) (dgl v))
  go_enter Try.func35, Try.ntmps35
  go_wp2
  go_loopw [6] (fun i wr => ∃ k x : Nat, i = .int .i64 (k : Nat) ∧ Hid (k * v + x = a) ∧ Hid (TakSt w (dgl x) (dgl v) wr)) (fun i _ => a / v - (intOf i).toNat)
  case atStart => exact ⟨0, a, rfl, by unfold Hid; omega, HST⟩
  case round =>
    obtain ⟨k, x, rfl, hk, hst⟩ := hrel
    clear HST
    have hx : x < QQ := by have := hk.out; omega
    have hca := hst.out.la.1
    have hcb := hst.out.lb.1
    have HCM := hide (fun w => wideCmp_any x v hx hv w)
    by_cases hle : v ≤ x
    · have hk1 : k + 1 ≤ a / v := by
        rw [Nat.le_div_iff_mul_le hv0]
        have h1 := hk.out
        have h2 := Nat.add_mul k 1 v
        omega
      have HK : Hid ((k + 1) * v + (x - v) = a) := by
        unfold Hid
        have h1 := hk.out
        have h2 := Nat.add_mul k 1 v
        omega
      have hge := cmp_ge hle
      have HSU := hide (fun w => wideSub_any x v hx hv w)
      rw [show subQ x v = x - v from subW_sub (by decide) 8 x v hx hle] at HSU
      have hkb : (k : Int) ≤ 4611686018427387904 := by omega
      generalize cmpN x v = cm at *
      go_wp2_with fail
      refine (HCM.out _).mono ?_
      rintro e w1 ⟨rfl, hb1⟩
      have HS2 := hide (hst.out.below hb1)
      clear hb1 hst hca hcb
      have hca := HS2.out.la.1
      have hcb := HS2.out.lb.1
      go_wp2_with fail
      refine (HSU.out _).mono ?_
      rintro e w2 ⟨rfl, hb2⟩
      have HS3 := hide (HS2.out.below hb2)
      clear hb2 HS2 hca hcb
      have hca := HS3.out.la.1
      have hfa := HS3.out.ffa
      have hla := HS3.out.la.2
      go_wp2
      go_roundw
      case rel => exact ⟨k + 1, x - v, by go_num, HK, HS3.out.set⟩
      case measure => simp [intOf]; omega
    · have hlt : x < v := by omega
      have hge := cmp_less hlt
      have HQ : Hid (((k : Nat) : Int) = ((a / v : Nat) : Int)) := by
        unfold Hid
        rw [← hk.out, Nat.mul_comm k v, Nat.mul_add_div hv0, Nat.div_eq_of_lt hlt, Nat.add_zero]
      have HR : Hid (x = a % v) := by
        unfold Hid
        rw [← hk.out, Nat.mul_comm k v, Nat.mul_add_mod, Nat.mod_eq_of_lt hlt]
      generalize cmpN x v = cm at *
      go_wp2_with fail
      refine (HCM.out _).mono ?_
      rintro e w1 ⟨rfl, hb1⟩
      have HS2 := hide (hst.out.below hb1)
      clear hb1 hst hca hcb
      have hca := HS2.out.la.1
      have hcr := HS2.out.lr.1
      have hfr := HS2.out.ffr
      have hlr := HS2.out.lr.2
      have HB := hide HS2.out.bel
      go_wp2
      go_region
      all_goals
        go_wp2
        refine bodyPost_ret (v := .tuple #[.int .i64 ((k : Nat) : Int), .agg #[.int .u64 (dgl (x) 0 : Nat), .int .u64 (dgl (x) 1 : Nat), .int .u64 (dgl (x) 2 : Nat), .int .u64 (dgl (x) 3 : Nat), .int .u64 (dgl (x) 4 : Nat), .int .u64 (dgl (x) 5 : Nat), .int .u64 (dgl (x) 6 : Nat), .int .u64 (dgl (x) 7 : Nat)]]) (by simp [results, Try.results35, go_sem, hcr, hlr]) rfl ⟨by rw [HQ.out, HR.out], ?_⟩
        exact (below_set8 HB.out (w.heap.size + 1 + 1) (by omega) _ _ _ _ _ _ _ _).drew

end Go.Proofs.Ytjklehlkgccmnaa

