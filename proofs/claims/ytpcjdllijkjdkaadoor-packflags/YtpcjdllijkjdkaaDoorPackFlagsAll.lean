/- PackFlags: for every int and text the law returns true. Conditions: those of the tied card (the tables of formats and of letters are laid as the program lays them). -/
import Derived.Test.YtpcjdllijkjdkaaDoorPartBB
import Derived.Test.YtpcjdllijkjdkaaDoorPartAQ
import Derived.Test.YtpcjdllijkjdkaaDoorPartBC
import Derived.Test.YtpcjdllijkjdkaaDoorRows
import Derived.Test.YtpcjdllijkjdkaaDoorTie
import Derived.Test.YtpcjdllijkjdkaaDoorCards
import Derived.LaidMore
import Derived.Stop.Joined
import Derived.SevenTiedAt
import Derived.WalkKit
import Derived.ProofKit
import Derived.OpenShut
import Derived.ShutString
import Derived.ChangeOld
import Derived.Below
import Derived.ChangeMaps5
/- The walk of PackFlags. -/
set_option linter.unusedVariables false
set_option linter.unusedSimpArgs false
set_option maxRecDepth 8000
namespace Go.Proofs.YtpcjdllijkjdkaaDoor
open Go.RowKit Plain

structure FgSt (w W : World) : Prop where
  g : FmtG W
  l : LetG W
  d : ∀ i, i < 5 → W.cell? ⟨w.heap.size, i, none⟩ = some (.int .i64 ([1, 2, 4, 8, 16].getD i 0))
  lt : w.heap.size < W.heap.size
  bel : Below w.heap.size w W
theorem FgSt.below {w W W' : World} (h : FgSt w W) (hb : Below W.heap.size W W') : FgSt w W' :=
  ⟨h.g.below hb, h.l.below hb, fun i hi => (hb.cell (p := ⟨w.heap.size, i, none⟩) h.lt).trans (h.d i hi), Nat.lt_of_lt_of_le h.lt hb.size, below_trans h.bel hb⟩
theorem fgSt_start (w : World) (e : TypeId) (hg : FmtG w) (hl : LetG w) : FgSt w (w.alloc (.cells #[.int .i64 1, .int .i64 2, .int .i64 4, .int .i64 8, .int .i64 16] e)) := by
  refine ⟨hg.below (below_allocs _ _), hl.below (below_allocs _ _), fun i hi => ?_, by simp, below_allocs _ _⟩
  match i, hi with
  | 0, _ | 1, _ | 2, _ | 3, _ | 4, _ => simp [go_sem]
theorem izo_0 : (ByteArray.mk #[105, 122, 111, 117, 120]).extract 0 1 = sT [105] := by decide +kernel
theorem izo_1 : (ByteArray.mk #[105, 122, 111, 117, 120]).extract 1 2 = sT [122] := by decide +kernel
theorem izo_2 : (ByteArray.mk #[105, 122, 111, 117, 120]).extract 2 3 = sT [111] := by decide +kernel
theorem izo_3 : (ByteArray.mk #[105, 122, 111, 117, 120]).extract 3 4 = sT [117] := by decide +kernel
theorem izo_4 : (ByteArray.mk #[105, 122, 111, 117, 120]).extract 4 5 = sT [120] := by decide +kernel
theorem fT_ne (n : Nat) (h0 : 0 < n) (h : n < 32) : (sT (fT n 5)).toList.isEmpty = false := by
  have h1 : ∀ a : Fin 32, 0 < a.1 → fT a.1 5 ≠ [] := by decide +kernel
  rw [empty_iff, decide_eq_false_iff_not, sT_size]
  intro h2
  exact h1 ⟨n, h⟩ h0 (List.length_eq_zero_iff.1 h2)
theorem nbit (n d : Nat) : (((n : Int).tdiv (d : Int)).tmod 2 == 1) = (n / d % 2 == 1) := by
  rw [Bool.eq_iff_iff, beq_iff_eq, beq_iff_eq]
  have h1 : (n : Int).tdiv (d : Int) = ((n / d : Nat) : Int) := rfl
  rw [h1]
  have h2 : (((n / d : Nat) : Int)).tmod 2 = ((n / d % 2 : Nat) : Int) := rfl
  rw [h2]
  omega

set_option maxHeartbeats 2000000 in
theorem packFlags_B (x : Int) (s : ByteArray) (hs : (30 : Int) < (s.size : Int)) (w : World) (hg : FmtG w) :
    Calls Tryd.prog 5 #[.int .i64 x, .string s] w fun e w' => e = .returned (.bool true) ∧ Below w.heap.size w w' := by
  have HG := hide hg
  clear hg
  go_enter Tryd.func5, Tryd.ntmps5
  go_wp2_with fail
  refine (awake9_any _ HG.out).mono ?_
  rintro e w9 ⟨rfl, hb9⟩
  have HB := hide hb9
  clear hb9 HG
  go_wp2
  go_ret
  exact ⟨rfl, HB.out⟩

set_option maxHeartbeats 4000000 in
theorem packFlags_Z (x r9 e9 : Int) (n N : Nat) (s : ByteArray)
    (HFL : Hid (∀ w, LetG w → Calls Tryd.prog 29 #[.int .i64 0] w fun e w' => e = .returned (.string (⟨#[45]⟩)) ∧ w' = w))
    (HPF : Hid (∀ w, LetG w → Calls Tryd.prog 30 #[.string (⟨#[45]⟩)] w fun e w' => e = .returned (.tuple #[.int .i64 0, .int .i64 0]) ∧ Below w.heap.size w w'))
    (HPS : Hid (∀ w, LetG w → Calls Tryd.prog 30 #[.string s] w fun e w' => e = .returned (.tuple #[.int .i64 r9, .int .i64 e9]) ∧ Below w.heap.size w w'))
    (HR9 : Hid (r9 = if N < 32 then (N : Int) else 0)) (HE9 : Hid (e9 = if N < 32 then (0 : Int) else 2))
    (HFA : Hid (∀ (x : Int) w, LetG w → Calls Tryd.prog 29 #[.int .i64 x] w fun e w' => e = .returned (.string (sT (flT x))) ∧ w' = w))
    (hN : N ≤ 32) (HLO : Hid (∀ i, i < N → sT (flT (i : Nat)) ≠ s)) (HHI : Hid (N < 32 → sT (flT (N : Nat)) = s)) (hs : ¬ (30 : Int) < (s.size : Int)) (w : World) (hg : FmtG w) (hl : LetG w) :
    Calls Tryd.prog 5 #[.int .i64 0, .string s] w fun e w' => e = .returned (.bool true) ∧ Below w.heap.size w w' := by
  have HST := hide (fun e => fgSt_start w e hg hl)
  clear hg hl
  go_enter Tryd.func5, Tryd.ntmps5
  go_upto_region 4 with fail
  refine wp_gen (fun W => FgSt w W) (HST.out _) ?_
  clear HST
  rintro W1 h1
  have HS := hide h1
  clear h1
  go_wp2_with fail
  refine (HFL.out _ HS.out.l).mono ?_
  rintro e wl ⟨rfl, hw⟩
  subst wl
  go_wp2_with fail
  refine (HPF.out _ HS.out.l).mono ?_
  rintro e w2 ⟨rfl, hb2⟩
  replace HS := hide (HS.out.below hb2)
  clear hb2
  go_wp2_with fail
  refine (HPS.out _ HS.out.l).mono ?_
  rintro e w3 ⟨rfl, hb3⟩
  replace HS := hide (HS.out.below hb3)
  clear hb3
  go_wp2_with fail
  go_loopw [14] (fun i wr => ∃ k : Nat, k ≤ N ∧ i = .int .i64 k ∧ Hid (FgSt w wr)) (fun i _ => 32 - (intOf i).toNat)
  case atStart => exact ⟨0, Nat.zero_le _, rfl, HS⟩
  case round =>
    clear HS
    obtain ⟨k, hk, rfl, HS⟩ := hrel
    by_cases hlt : k < 32
    · have hj : (k : Int) < 32 := by omega
      have HLK := hide (HLO.out k)
      have HHK : Hid (k = N → sT (flT (k : Nat)) = s) := fun h => by subst h; exact HHI.out hlt
      have HFK := hide (HFA.out (k : Nat))
      generalize sT (flT (k : Nat)) = t at *
      go_wp2_with fail
      refine (HFK.out _ HS.out.l).mono ?_
      rintro e_ wl ⟨rfl, hw⟩
      subst wl
      by_cases hts : t = s
      · have hkN : k = N := by
          rcases Nat.lt_or_eq_of_le hk with h1 | h1
          · exact absurd hts (HLK.out h1)
          · exact h1
        have hr : r9 = (k : Int) := by rw [HR9.out, if_pos (by omega)]; omega
        have he : e9 = 0 := by rw [HE9.out, if_pos (by omega)]
        have hsl : (t.toList == s.toList) = true := by rw [str_eq]; exact decide_eq_true hts
        clear HLK HHK hkN hts HR9 HE9
        subst hr
        subst he
        have hkk : ((k : Int) == (k : Int)) = true := beq_self_eq_true _
        go_wp2_with fail
        refine (awake9_any _ HS.out.g).mono ?_
        rintro e w9 ⟨rfl, hb9⟩
        have HB := hide (below_trans HS.out.bel hb9)
        clear hb9 HS
        go_wp2
        go_ret
        exact ⟨rfl, HB.out⟩
      · have hkN : k ≠ N := fun h => hts (HHK.out h)
        have hlt2 : k + 1 ≤ N := by omega
        have hd : (t.toList == s.toList) = false := by rw [str_eq]; exact decide_eq_false hts
        clear HLK HHK hkN
        go_wp2
        go_roundw
        case rel => exact ⟨k + 1, hlt2, by go_num, HS⟩
        case measure => first | (simp [intOf]; done) | (simp [intOf]; omega)
    · have hr : r9 = 0 := by rw [HR9.out, if_neg (by omega)]
      have he : e9 = 2 := by rw [HE9.out, if_neg (by omega)]
      have hj : ¬ (k : Int) < 32 := by omega
      clear HR9 HE9
      subst hr
      subst he
      go_wp2_with fail
      refine (awake9_any _ HS.out.g).mono ?_
      rintro e w9 ⟨rfl, hb9⟩
      have HB := hide (below_trans HS.out.bel hb9)
      clear hb9 HS
      go_wp2
      go_ret
      exact ⟨rfl, HB.out⟩

set_option maxHeartbeats 4000000 in
theorem packFlags_O (x r9 e9 : Int) (n N : Nat) (s : ByteArray)
    (HFL : Hid (∀ w, LetG w → Calls Tryd.prog 29 #[.int .i64 x] w fun e w' => e = .returned (.string (⟨#[]⟩)) ∧ w' = w))
    (HPF : Hid (∀ w, LetG w → Calls Tryd.prog 30 #[.string (⟨#[]⟩)] w fun e w' => e = .returned (.tuple #[.int .i64 0, .int .i64 2]) ∧ Below w.heap.size w w'))
    (HPS : Hid (∀ w, LetG w → Calls Tryd.prog 30 #[.string s] w fun e w' => e = .returned (.tuple #[.int .i64 r9, .int .i64 e9]) ∧ Below w.heap.size w w'))
    (HR9 : Hid (r9 = if N < 32 then (N : Int) else 0)) (HE9 : Hid (e9 = if N < 32 then (0 : Int) else 2))
    (HFA : Hid (∀ (x : Int) w, LetG w → Calls Tryd.prog 29 #[.int .i64 x] w fun e w' => e = .returned (.string (sT (flT x))) ∧ w' = w))
    (hN : N ≤ 32) (HLO : Hid (∀ i, i < N → sT (flT (i : Nat)) ≠ s)) (HHI : Hid (N < 32 → sT (flT (N : Nat)) = s)) (hs : ¬ (30 : Int) < (s.size : Int))
    (hx : x < 0 ∨ 32 ≤ x) (w : World) (hg : FmtG w) (hl : LetG w) :
    Calls Tryd.prog 5 #[.int .i64 x, .string s] w fun e w' => e = .returned (.bool true) ∧ Below w.heap.size w w' := by
  have HST := hide (fun e => fgSt_start w e hg hl)
  clear hg hl
  go_enter Tryd.func5, Tryd.ntmps5
  go_upto_region 4 with fail
  refine wp_gen (fun W => FgSt w W) (HST.out _) ?_
  clear HST
  rintro W1 h1
  have HS := hide h1
  clear h1
  have hx0 : (x == 0) = false := by rw [beq_eq_false_iff_ne]; omega
  by_cases hxp : (0 : Int) < x
  · have hx32 : ¬ x < 32 := by omega
    go_wp2_with fail
    refine (HFL.out _ HS.out.l).mono ?_
    rintro e wl ⟨rfl, hw⟩
    subst wl
    go_wp2_with fail
    refine (HPF.out _ HS.out.l).mono ?_
    rintro e w2 ⟨rfl, hb2⟩
    replace HS := hide (HS.out.below hb2)
    clear hb2
    go_wp2_with fail
    refine (HPS.out _ HS.out.l).mono ?_
    rintro e w3 ⟨rfl, hb3⟩
    replace HS := hide (HS.out.below hb3)
    clear hb3
    go_wp2_with fail
    go_loopw [14] (fun i wr => ∃ k : Nat, k ≤ N ∧ i = .int .i64 k ∧ Hid (FgSt w wr)) (fun i _ => 32 - (intOf i).toNat)
    case atStart => exact ⟨0, Nat.zero_le _, rfl, HS⟩
    case round =>
      clear HS
      obtain ⟨k, hk, rfl, HS⟩ := hrel
      by_cases hlt : k < 32
      · have hj : (k : Int) < 32 := by omega
        have HLK := hide (HLO.out k)
        have HHK : Hid (k = N → sT (flT (k : Nat)) = s) := fun h => by subst h; exact HHI.out hlt
        have HFK := hide (HFA.out (k : Nat))
        generalize sT (flT (k : Nat)) = t at *
        go_wp2_with fail
        refine (HFK.out _ HS.out.l).mono ?_
        rintro e_ wl ⟨rfl, hw⟩
        subst wl
        by_cases hts : t = s
        · have hkN : k = N := by
            rcases Nat.lt_or_eq_of_le hk with h1 | h1
            · exact absurd hts (HLK.out h1)
            · exact h1
          have hr : r9 = (k : Int) := by rw [HR9.out, if_pos (by omega)]; omega
          have he : e9 = 0 := by rw [HE9.out, if_pos (by omega)]
          have hsl : (t.toList == s.toList) = true := by rw [str_eq]; exact decide_eq_true hts
          clear HLK HHK hkN hts HR9 HE9
          subst hr
          subst he
          have hkk : ((k : Int) == (k : Int)) = true := beq_self_eq_true _
          go_wp2_with fail
          refine (awake9_any _ HS.out.g).mono ?_
          rintro e w9 ⟨rfl, hb9⟩
          have HB := hide (below_trans HS.out.bel hb9)
          clear hb9 HS
          go_wp2
          go_ret
          exact ⟨rfl, HB.out⟩
        · have hkN : k ≠ N := fun h => hts (HHK.out h)
          have hlt2 : k + 1 ≤ N := by omega
          have hd : (t.toList == s.toList) = false := by rw [str_eq]; exact decide_eq_false hts
          clear HLK HHK hkN
          go_wp2
          go_roundw
          case rel => exact ⟨k + 1, hlt2, by go_num, HS⟩
          case measure => first | (simp [intOf]; done) | (simp [intOf]; omega)
      · have hr : r9 = 0 := by rw [HR9.out, if_neg (by omega)]
        have he : e9 = 2 := by rw [HE9.out, if_neg (by omega)]
        have hj : ¬ (k : Int) < 32 := by omega
        clear HR9 HE9
        subst hr
        subst he
        go_wp2_with fail
        refine (awake9_any _ HS.out.g).mono ?_
        rintro e w9 ⟨rfl, hb9⟩
        have HB := hide (below_trans HS.out.bel hb9)
        clear hb9 HS
        go_wp2
        go_ret
        exact ⟨rfl, HB.out⟩
  · go_wp2_with fail
    refine (HFL.out _ HS.out.l).mono ?_
    rintro e wl ⟨rfl, hw⟩
    subst wl
    go_wp2_with fail
    refine (HPF.out _ HS.out.l).mono ?_
    rintro e w2 ⟨rfl, hb2⟩
    replace HS := hide (HS.out.below hb2)
    clear hb2
    go_wp2_with fail
    refine (HPS.out _ HS.out.l).mono ?_
    rintro e w3 ⟨rfl, hb3⟩
    replace HS := hide (HS.out.below hb3)
    clear hb3
    go_wp2_with fail
    go_loopw [14] (fun i wr => ∃ k : Nat, k ≤ N ∧ i = .int .i64 k ∧ Hid (FgSt w wr)) (fun i _ => 32 - (intOf i).toNat)
    case atStart => exact ⟨0, Nat.zero_le _, rfl, HS⟩
    case round =>
      clear HS
      obtain ⟨k, hk, rfl, HS⟩ := hrel
      by_cases hlt : k < 32
      · have hj : (k : Int) < 32 := by omega
        have HLK := hide (HLO.out k)
        have HHK : Hid (k = N → sT (flT (k : Nat)) = s) := fun h => by subst h; exact HHI.out hlt
        have HFK := hide (HFA.out (k : Nat))
        generalize sT (flT (k : Nat)) = t at *
        go_wp2_with fail
        refine (HFK.out _ HS.out.l).mono ?_
        rintro e_ wl ⟨rfl, hw⟩
        subst wl
        by_cases hts : t = s
        · have hkN : k = N := by
            rcases Nat.lt_or_eq_of_le hk with h1 | h1
            · exact absurd hts (HLK.out h1)
            · exact h1
          have hr : r9 = (k : Int) := by rw [HR9.out, if_pos (by omega)]; omega
          have he : e9 = 0 := by rw [HE9.out, if_pos (by omega)]
          have hsl : (t.toList == s.toList) = true := by rw [str_eq]; exact decide_eq_true hts
          clear HLK HHK hkN hts HR9 HE9
          subst hr
          subst he
          have hkk : ((k : Int) == (k : Int)) = true := beq_self_eq_true _
          go_wp2_with fail
          refine (awake9_any _ HS.out.g).mono ?_
          rintro e w9 ⟨rfl, hb9⟩
          have HB := hide (below_trans HS.out.bel hb9)
          clear hb9 HS
          go_wp2
          go_ret
          exact ⟨rfl, HB.out⟩
        · have hkN : k ≠ N := fun h => hts (HHK.out h)
          have hlt2 : k + 1 ≤ N := by omega
          have hd : (t.toList == s.toList) = false := by rw [str_eq]; exact decide_eq_false hts
          clear HLK HHK hkN
          go_wp2
          go_roundw
          case rel => exact ⟨k + 1, hlt2, by go_num, HS⟩
          case measure => first | (simp [intOf]; done) | (simp [intOf]; omega)
      · have hr : r9 = 0 := by rw [HR9.out, if_neg (by omega)]
        have he : e9 = 2 := by rw [HE9.out, if_neg (by omega)]
        have hj : ¬ (k : Int) < 32 := by omega
        clear HR9 HE9
        subst hr
        subst he
        go_wp2_with fail
        refine (awake9_any _ HS.out.g).mono ?_
        rintro e w9 ⟨rfl, hb9⟩
        have HB := hide (below_trans HS.out.bel hb9)
        clear hb9 HS
        go_wp2
        go_ret
        exact ⟨rfl, HB.out⟩

set_option maxHeartbeats 4000000 in
theorem packFlags_S (x r9 e9 : Int) (n N : Nat) (s : ByteArray)
    (HFL : Hid (∀ w, LetG w → Calls Tryd.prog 29 #[.int .i64 (n : Nat)] w fun e w' => e = .returned (.string (sT (fT n 5))) ∧ w' = w))
    (HPF : Hid (∀ w, LetG w → Calls Tryd.prog 30 #[.string (sT (fT n 5))] w fun e w' => e = .returned (.tuple #[.int .i64 (n : Nat), .int .i64 0]) ∧ Below w.heap.size w w'))
    (HPS : Hid (∀ w, LetG w → Calls Tryd.prog 30 #[.string s] w fun e w' => e = .returned (.tuple #[.int .i64 r9, .int .i64 e9]) ∧ Below w.heap.size w w'))
    (HR9 : Hid (r9 = if N < 32 then (N : Int) else 0)) (HE9 : Hid (e9 = if N < 32 then (0 : Int) else 2))
    (HFA : Hid (∀ (x : Int) w, LetG w → Calls Tryd.prog 29 #[.int .i64 x] w fun e w' => e = .returned (.string (sT (flT x))) ∧ w' = w))
    (hN : N ≤ 32) (HLO : Hid (∀ i, i < N → sT (flT (i : Nat)) ≠ s)) (HHI : Hid (N < 32 → sT (flT (N : Nat)) = s)) (hs : ¬ (30 : Int) < (s.size : Int))
    (h0 : 0 < n) (h32 : n < 32) (w : World) (hg : FmtG w) (hl : LetG w) :
    Calls Tryd.prog 5 #[.int .i64 (n : Nat), .string s] w fun e w' => e = .returned (.bool true) ∧ Below w.heap.size w w' := by
  have HST := hide (fun e => fgSt_start w e hg hl)
  clear hg hl
  go_enter Tryd.func5, Tryd.ntmps5
  go_upto_region 4 with fail
  refine wp_gen (fun W => FgSt w W) (HST.out _) ?_
  clear HST
  rintro W1 h1
  have HS := hide h1
  clear h1
  have hn0 : ((n : Int) == 0) = false := by rw [beq_eq_false_iff_ne]; omega
  have hn1 : (0 : Int) < (n : Int) := by omega
  have hn2 : (n : Int) < 32 := by omega
  have HT := hide (fT_len n)
  go_wp2_with fail
  go_loopw [7, 8] (fun o i wr => ∃ k : Nat, k ≤ 5 ∧ o = .string (sT (fT n k)) ∧ i = .int .i64 k ∧ Hid (FgSt w wr)) (fun o i _ => 5 - (intOf i).toNat)
  case atStart => exact ⟨0, by decide, rfl, rfl, HS⟩
  case round =>
    clear HS
    obtain ⟨k, hk, rfl, rfl, HS⟩ := hrel
    have hk5 : k = 0 ∨ k = 1 ∨ k = 2 ∨ k = 3 ∨ k = 4 ∨ k = 5 := by omega
    have hsz : (sT (fT n k)).size ≤ 10 := by rw [sT_size]; have := HT.out k; omega
    rcases hk5 with rfl | rfl | rfl | rfl | rfl | rfl
    · have hd : _ = some (Value.int .i64 1) := HS.out.d 0 (by decide)
      have hlt := HS.out.lt
      have hb := nbit n 1
      have HE : Hid (fT n 1 = fT n 0 ++ (bif n / 1 % 2 == 1 then [105] else [])) := rfl
      have hiz := izo_0
      have hsz1 : (sT [105]).size = 1 := rfl
      cases hbv : (n / 1 % 2 == 1)
      · rw [hbv] at hb HE
        replace HE := hide (HE.out.trans (List.append_nil _))
        generalize fT n 0 = u at *
        go_wp2
        go_roundw
        case rel => exact ⟨1, by decide, by rw [HE.out], rfl, HS⟩
        case measure => decide
      · rw [hbv] at hb HE
        have HE2 : Hid (sT (fT n 0) ++ sT [105] = sT (fT n 1)) := by unfold Hid; rw [sT_app, HE.out]; rfl
        clear HE
        generalize fT n 0 = u at *
        go_wp2
        go_roundw
        case rel => exact ⟨1, by decide, congrArg Value.string HE2.out, rfl, HS⟩
        case measure => decide
    · have hd : _ = some (Value.int .i64 2) := HS.out.d 1 (by decide)
      have hlt := HS.out.lt
      have hb := nbit n 2
      have HE : Hid (fT n 2 = fT n 1 ++ (bif n / 2 % 2 == 1 then [122] else [])) := rfl
      have hiz := izo_1
      have hsz1 : (sT [122]).size = 1 := rfl
      cases hbv : (n / 2 % 2 == 1)
      · rw [hbv] at hb HE
        replace HE := hide (HE.out.trans (List.append_nil _))
        generalize fT n 1 = u at *
        go_wp2
        go_roundw
        case rel => exact ⟨2, by decide, by rw [HE.out], rfl, HS⟩
        case measure => decide
      · rw [hbv] at hb HE
        have HE2 : Hid (sT (fT n 1) ++ sT [122] = sT (fT n 2)) := by unfold Hid; rw [sT_app, HE.out]; rfl
        clear HE
        generalize fT n 1 = u at *
        go_wp2
        go_roundw
        case rel => exact ⟨2, by decide, congrArg Value.string HE2.out, rfl, HS⟩
        case measure => decide
    · have hd : _ = some (Value.int .i64 4) := HS.out.d 2 (by decide)
      have hlt := HS.out.lt
      have hb := nbit n 4
      have HE : Hid (fT n 3 = fT n 2 ++ (bif n / 4 % 2 == 1 then [111] else [])) := rfl
      have hiz := izo_2
      have hsz1 : (sT [111]).size = 1 := rfl
      cases hbv : (n / 4 % 2 == 1)
      · rw [hbv] at hb HE
        replace HE := hide (HE.out.trans (List.append_nil _))
        generalize fT n 2 = u at *
        go_wp2
        go_roundw
        case rel => exact ⟨3, by decide, by rw [HE.out], rfl, HS⟩
        case measure => decide
      · rw [hbv] at hb HE
        have HE2 : Hid (sT (fT n 2) ++ sT [111] = sT (fT n 3)) := by unfold Hid; rw [sT_app, HE.out]; rfl
        clear HE
        generalize fT n 2 = u at *
        go_wp2
        go_roundw
        case rel => exact ⟨3, by decide, congrArg Value.string HE2.out, rfl, HS⟩
        case measure => decide
    · have hd : _ = some (Value.int .i64 8) := HS.out.d 3 (by decide)
      have hlt := HS.out.lt
      have hb := nbit n 8
      have HE : Hid (fT n 4 = fT n 3 ++ (bif n / 8 % 2 == 1 then [117] else [])) := rfl
      have hiz := izo_3
      have hsz1 : (sT [117]).size = 1 := rfl
      cases hbv : (n / 8 % 2 == 1)
      · rw [hbv] at hb HE
        replace HE := hide (HE.out.trans (List.append_nil _))
        generalize fT n 3 = u at *
        go_wp2
        go_roundw
        case rel => exact ⟨4, by decide, by rw [HE.out], rfl, HS⟩
        case measure => decide
      · rw [hbv] at hb HE
        have HE2 : Hid (sT (fT n 3) ++ sT [117] = sT (fT n 4)) := by unfold Hid; rw [sT_app, HE.out]; rfl
        clear HE
        generalize fT n 3 = u at *
        go_wp2
        go_roundw
        case rel => exact ⟨4, by decide, congrArg Value.string HE2.out, rfl, HS⟩
        case measure => decide
    · have hd : _ = some (Value.int .i64 16) := HS.out.d 4 (by decide)
      have hlt := HS.out.lt
      have hb := nbit n 16
      have HE : Hid (fT n 5 = fT n 4 ++ (bif n / 16 % 2 == 1 then [120] else [])) := rfl
      have hiz := izo_4
      have hsz1 : (sT [120]).size = 1 := rfl
      cases hbv : (n / 16 % 2 == 1)
      · rw [hbv] at hb HE
        replace HE := hide (HE.out.trans (List.append_nil _))
        generalize fT n 4 = u at *
        go_wp2
        go_roundw
        case rel => exact ⟨5, by decide, by rw [HE.out], rfl, HS⟩
        case measure => decide
      · rw [hbv] at hb HE
        have HE2 : Hid (sT (fT n 4) ++ sT [120] = sT (fT n 5)) := by unfold Hid; rw [sT_app, HE.out]; rfl
        clear HE
        generalize fT n 4 = u at *
        go_wp2
        go_roundw
        case rel => exact ⟨5, by decide, congrArg Value.string HE2.out, rfl, HS⟩
        case measure => decide
    · have hj : ¬ ((5 : Nat) : Int) < 5 := by decide
      have hq : ((sT (fT n 5)).toList == (sT (fT n 5)).toList) = true := beq_self_eq_true _
      have hnn : ((n : Int) == (n : Int)) = true := beq_self_eq_true _
      have hem : (sT (fT n 5)).toList.isEmpty = false := fT_ne n h0 h32
      generalize sT (fT n 5) = u at *
      go_wp2_with fail
      refine (HFL.out _ HS.out.l).mono ?_
      rintro e wl ⟨rfl, hw⟩
      subst wl
      go_wp2_with fail
      refine (HPF.out _ HS.out.l).mono ?_
      rintro e w2 ⟨rfl, hb2⟩
      replace HS := hide (HS.out.below hb2)
      clear hb2
      go_wp2_with fail
      refine (HPS.out _ HS.out.l).mono ?_
      rintro e w3 ⟨rfl, hb3⟩
      replace HS := hide (HS.out.below hb3)
      clear hb3
      go_wp2_with fail
      go_loopw [14] (fun i wr => ∃ k : Nat, k ≤ N ∧ i = .int .i64 k ∧ Hid (FgSt w wr)) (fun i _ => 32 - (intOf i).toNat)
      case atStart => exact ⟨0, Nat.zero_le _, rfl, HS⟩
      case round =>
        clear HS
        obtain ⟨k, hk, rfl, HS⟩ := hrel
        by_cases hlt : k < 32
        · have hj : (k : Int) < 32 := by omega
          have HLK := hide (HLO.out k)
          have HHK : Hid (k = N → sT (flT (k : Nat)) = s) := fun h => by subst h; exact HHI.out hlt
          have HFK := hide (HFA.out (k : Nat))
          generalize sT (flT (k : Nat)) = t at *
          go_wp2_with fail
          refine (HFK.out _ HS.out.l).mono ?_
          rintro e_ wl ⟨rfl, hw⟩
          subst wl
          by_cases hts : t = s
          · have hkN : k = N := by
              rcases Nat.lt_or_eq_of_le hk with h1 | h1
              · exact absurd hts (HLK.out h1)
              · exact h1
            have hr : r9 = (k : Int) := by rw [HR9.out, if_pos (by omega)]; omega
            have he : e9 = 0 := by rw [HE9.out, if_pos (by omega)]
            have hsl : (t.toList == s.toList) = true := by rw [str_eq]; exact decide_eq_true hts
            clear HLK HHK hkN hts HR9 HE9
            subst hr
            subst he
            have hkk : ((k : Int) == (k : Int)) = true := beq_self_eq_true _
            go_wp2_with fail
            refine (awake9_any _ HS.out.g).mono ?_
            rintro e w9 ⟨rfl, hb9⟩
            have HB := hide (below_trans HS.out.bel hb9)
            clear hb9 HS
            go_wp2
            go_ret
            exact ⟨rfl, HB.out⟩
          · have hkN : k ≠ N := fun h => hts (HHK.out h)
            have hlt2 : k + 1 ≤ N := by omega
            have hd : (t.toList == s.toList) = false := by rw [str_eq]; exact decide_eq_false hts
            clear HLK HHK hkN
            go_wp2
            go_roundw
            case rel => exact ⟨k + 1, hlt2, by go_num, HS⟩
            case measure => first | (simp [intOf]; done) | (simp [intOf]; omega)
        · have hr : r9 = 0 := by rw [HR9.out, if_neg (by omega)]
          have he : e9 = 2 := by rw [HE9.out, if_neg (by omega)]
          have hj : ¬ (k : Int) < 32 := by omega
          clear HR9 HE9
          subst hr
          subst he
          go_wp2_with fail
          refine (awake9_any _ HS.out.g).mono ?_
          rintro e w9 ⟨rfl, hb9⟩
          have HB := hide (below_trans HS.out.bel hb9)
          clear hb9 HS
          go_wp2
          go_ret
          exact ⟨rfl, HB.out⟩

theorem flT_out {x : Int} (h : x < 0 ∨ 32 ≤ x) : flT x = [] := if_pos h
theorem packFlags_all (x : Int) (s : ByteArray) (w : World) (hg : FmtG w) (hl : LetG w) :
    Calls Tryd.prog 5 #[.int .i64 x, .string s] w fun e w' => e = .returned (.bool true) ∧ Below w.heap.size w w' := by
  by_cases hs : (30 : Int) < (s.size : Int)
  · exact packFlags_B x s hs w hg
  · obtain ⟨-, n2, n3, n4⟩ := pfN_spec s 32 (Nat.le_refl _)
    have HPS := fun w hl => parse_any s (pfN s 32) n2 (fun i hi => n3 i (by omega) hi) n4 _ _ rfl rfl w hl
    have HFA := fun (x : Int) w hl => flags_any x w hl
    have HFL := fun w hl => flags_any x w hl
    by_cases h : x < 0 ∨ 32 ≤ x
    · have HPF := fun w hl => parse_any (sT []) 32 (Nat.le_refl _) (fun i hi e => flT_some ⟨i, hi⟩ (sT_inj e)) (fun h => absurd h (by decide)) 0 2 rfl rfl w hl
      rw [flT_out h] at HFL
      exact packFlags_O x _ _ 0 (pfN s 32) s HFL HPF HPS rfl rfl HFA n2 (fun i hi => n3 i (by omega) hi) n4 hs h w hg hl
    · obtain ⟨n, rfl⟩ : ∃ n : Nat, x = (n : Int) := ⟨x.toNat, by omega⟩
      have hn : n < 32 := by omega
      have HPF := fun w hl => parse_any (sT (flT ((n : Nat) : Int))) n (by omega) (fun i hi e => by
        have := flT_inj ⟨i, by omega⟩ ⟨n, hn⟩ (sT_inj e)
        have h2 : i = n := congrArg Fin.val this
        omega) (fun _ => rfl) (n : Nat) 0 (by rw [if_pos hn]) (by rw [if_pos hn]) w hl
      by_cases h0 : n = 0
      · subst h0
        exact packFlags_Z 0 _ _ 0 (pfN s 32) s HFL HPF HPS rfl rfl HFA n2 (fun i hi => n3 i (by omega) hi) n4 hs w hg hl
      · have e : flT ((n : Nat) : Int) = fT n 5 := by
          unfold flT
          rw [if_neg h, if_neg (by omega)]
          rfl
        rw [e] at HFL HPF
        exact packFlags_S 0 _ _ n (pfN s 32) s HFL HPF HPS rfl rfl HFA n2 (fun i hi => n3 i (by omega) hi) n4 hs (by omega) hn w hg hl

end Go.Proofs.YtpcjdllijkjdkaaDoor

/- PackFlags: for every int and text the law returns true. Conditions: those of the tied card (the tables of formats and of letters are laid as the program lays them). -/
namespace Go.Proofs.YtpcjdllijkjdkaaDoor.packFlags
open Go.ChangeShapes Go.WideShapes Go.ChangeAt Go.RowKit Go.Proofs.YtpcjdllijkjdkaaDoor

theorem own : ownKnob Tryd.prog.godebug = none := by kernel_rfl
theorem laidOut : laidOutB Tryd.prog = true := by kernel_rfl

theorem door_met (os : Os) (args : Array Value) : laidMetH Tryd.prog [("radicand/format.formats", Rows.laid_radicand_format_formats), ("radicand/pack.letters", Rows.laid_radicand_pack_letters)] ((World.doorLaid Tryd.prog 400 os).forCall (fun _ _ => 0) ⟨#[], args, []⟩).memory :=
  laidMetH_of_parts3 (fuel := 8) (laidMet_of_run' 8 (by kernel_rfl) (by kernel_rfl)) (by kernel_rfl) (by kernel_rfl)

set_option maxRecDepth 100000 in
theorem lifted (os : Os) (started : os.Started) (H : Type) (enc : TypeId × Value → H) :
    ReturnsInHanded {} Tryd.checked os 5 .any (fun w args => (Rows.packFlagsSpec.pre enc Tryd.prog Tryd.f5 [] false w args ∧ laidMetH Tryd.prog [("radicand/format.formats", Rows.laid_radicand_format_formats), ("radicand/pack.letters", Rows.laid_radicand_pack_letters)] w) ∧ sizedMet enc Tryd.prog Tryd.f5 (OpenSpec.ofChange Rows.packFlagsSpec) false w args) (Rows.packFlagsSpec.post enc Tryd.prog Tryd.f5 false true false false) := by
  refine returnsInHanded_of_change_and (C := Tryd.checked) (X := fun w _ => laidMetH Tryd.prog [("radicand/format.formats", Rows.laid_radicand_format_formats), ("radicand/pack.letters", Rows.laid_radicand_pack_letters)] w) (fun _ _ _ hh h => h.of_heap hh) own started (by kernel_rfl) Tryd.func5
    (ChangeSpec.witness_shaped (enc := enc) (C := Tryd.checked) (os := os) (X := fun w _ => laidMetH Tryd.prog [("radicand/format.formats", Rows.laid_radicand_format_formats), ("radicand/pack.letters", Rows.laid_radicand_pack_letters)] w) false (World.doorLaid Tryd.prog 400 os) #[.int .i64 0, .string ⟨#[]⟩] 8 rfl (World.shaped_of_RefB (by kernel_rfl) (by kernel_rfl)) (by kernel_rfl) (by kernel_rfl) (by kernel_rfl) (door_met os _)) ?_
  intro W base args ds gs before hval0 hW _ _ hL _
  have hval : ∀ (j : Nat) t v, Tryd.f5.params[j]? = some t → args[j]? = some v → Value.okWide Tryd.prog W .any base t v := hval0
  have hW' := hW
  obtain ⟨p, q, hA0, hV, rfl, hfz, hnd⟩ := hW
  have hA : DataW.TrodAll enc Tryd.prog W 0 (fun _ => true) true Tryd.f5.params.toList args.toList ds p := hA0
  rw [Tryd.params5] at hA hval
  obtain ⟨v0, vs0, d0, ds0, p0, q0, hargs, rfl, rfl, h0, r0⟩ := trodAll_cons hA
  obtain ⟨v1, vs1, d1, ds1, p1, q1, rfl, rfl, rfl, h1, r1⟩ := trodAll_cons r0
  obtain ⟨rfl, rfl, rfl⟩ := trodAll_nil r1
  obtain rfl : args = #[v0, v1] := by cases args; simp_all
  obtain ⟨rfl, rfl⟩ := trodVars_none hV
  have k0 := h0
  have lt0 : ∀ x ∈ p0, x.block < W.heap.size := by obtain ⟨m, hm⟩ := k0; exact DataW.trod_lt m _ _ _ hm
  have k1 := h1
  have lt1 : ∀ x ∈ p1, x.block < W.heap.size := by obtain ⟨m, hm⟩ := k1; exact DataW.trod_lt m _ _ _ hm
  obtain ⟨a0, rfl, rfl, rfl, wf0⟩ := open_int Tryd.underlying3 (hval 0 3 v0 rfl rfl) h0
  obtain ⟨s1, rfl, rfl, rfl, hm1⟩ := Go.ChangeMaps.open_string Tryd.underlying9 (hval 1 9 v1 rfl rfl) h1
  clear hA0 hval0
  have hg := of_laidL hL
  refine (packFlags_all a0 s1 W hg.1 hg.2).mono fun e W' ⟨he, bel⟩ => ?_
  subst he
  exact ⟨_, rfl, _, _, _, [], _, [], hW', trodAll_mk1 (shut_bool Tryd.underlying4 _), (trodAll_cons_mk (Below.trod laidOut (by kernel_rfl) (of_decide_eq_true (by kernel_rfl)) k0 bel lt0) (trodAll_cons_mk (Below.trod laidOut (by kernel_rfl) (of_decide_eq_true (by kernel_rfl)) k1 bel lt1) trodAll_mk0)), rfl, bel.frame _, fun h => by cases h⟩

theorem over : Rows.packFlagsRow.holds Tryd.pinned (OpenSpec.ofChange Rows.packFlagsSpec) :=
  OpenClaim.holds_of_wide 5 Tryd.f5 rfl rfl rfl rfl rfl rfl rfl ⟨rfl, rfl, rfl, rfl, rfl⟩ rfl rfl rfl rfl rfl (by kernel_rfl) Tryd.func5 (by kernel_rfl)
    (of_decide_eq_true (by kernel_rfl)) (by unfold Func.isWrapper; first | (rw [if_pos (by decide +kernel)]; kernel_rfl) | (rw [if_neg (by decide +kernel)]; exact ⟨rfl, rfl⟩))
    (fun os started H enc _ => lifted os started H enc)

theorem proved : Rows.PackFlagsCardSaid :=
  Claim7.holds_tied_plain_at .later [] [.data, .data] true (true, "bda7307485677e703060dea11d85374f6d1941a46d5c51f47956e134a69fc123") false
    over (fun _ h => by cases h) (by kernel_rfl) (fun _ h => by cases h) packFlags_row_tie rfl ⟨rfl, rfl⟩ (by kernel_rfl) rfl
    (fun f fn hf hfn => by
      obtain rfl : f = 5 := Option.some.inj ((show Tryd.prog.funcNamed "radicand/radicandlaw09.PackFlags" = some 5 by kernel_rfl).symm.trans hf) |>.symm
      obtain rfl : fn = Tryd.f5 := (Option.some.inj (Tryd.func5.symm.trans hfn)).symm
      exact ⟨by kernel_rfl, fun j t ht => by
        rw [Tryd.params5] at ht
        rcases j with _ | j
        · obtain rfl : t = 3 := by simpa using ht.symm
          exact (show Tryd.prog.wantsStandIn 3 = false by kernel_rfl)
        rcases j with _ | j
        · obtain rfl : t = 9 := by simpa using ht.symm
          exact (show Tryd.prog.wantsStandIn 9 = false by kernel_rfl)
        simp at ht⟩)
    (by kernel_rfl)
#print axioms proved
end Go.Proofs.YtpcjdllijkjdkaaDoor.packFlags

