/- Contracts and laws: RomB. -/
import Derived.Test.YteocibahclpegaaPartAA
import Derived.Test.YteocibahclpegaaPartAB
import Derived.Test.YteocibahclpegaaPartAJ
/- Contracts: sync.Once's slow road over any function; sort.Search over any predicate; rom.root, rom.each, rom.at; what fill tells each. -/
set_option linter.unusedVariables false
set_option linter.unusedSimpArgs false
set_option maxRecDepth 8000
namespace Go.Proofs.Yteocibahclpegaa
open Go.RowKit Plain

set_option maxRecDepth 100000 in
set_option maxHeartbeats 1600000 in
/-- '(*sync.Once).doSlow', not yet done, the lock free: the function is called; then 'done' is stored, the lock let go. -/
theorem slow_any (b : Nat) (P : World → Prop) (w : World) (h0 : w.cell? ⟨b, 0, none⟩ = some (.int .u32 0)) (h1 : w.cell? ⟨b, 1, none⟩ = some (.int .i32 0))
    (f0 : w.frozen? ⟨b, 0, none⟩ = false) (f1 : w.frozen? ⟨b, 1, none⟩ = false)
    (HF : Hid (Calls Try.prog 44 #[.pointer (some ⟨b, 0, none⟩)] (w.setCell ⟨b, 1, none⟩ (.int .i32 1)) fun e w' => e = .returned (.tuple #[]) ∧ P w'))
    (HP : Hid (∀ W, P W → W.cell? ⟨b, 0, none⟩ = some (.int .u32 0) ∧ W.cell? ⟨b, 1, none⟩ = some (.int .i32 1) ∧ W.frozen? ⟨b, 0, none⟩ = false ∧ W.frozen? ⟨b, 1, none⟩ = false)) :
    Calls Try.prog 68 #[.pointer (some ⟨b, 0, none⟩), .func (.func 44) #[.pointer (some ⟨b, 0, none⟩)] #[]] w fun e w' => e = .returned (.tuple #[]) ∧ ∃ W, P W ∧ w' = (W.drew.setCell ⟨b, 0, none⟩ (.int .u32 1)).setCell ⟨b, 1, none⟩ (.int .i32 0) := by
  have hl := run_call_load (P := Try.prog) Try.func89 (by kernel_rfl) (by kernel_rfl) (by kernel_rfl) .u32 (by kernel_rfl) (w := w.setCell ⟨b, 1, none⟩ (.int .i32 1)) (a := ⟨b, 0, none⟩) (x := 0) ((World.cell?_setCell_other _ ⟨b, 1, none⟩ ⟨b, 0, none⟩ _ (by simp)).trans h0)
  have hnot : ∀ (x : Bool) (w : World), (Op.unary .not (.bool x)).run Try.prog w = .ok (.bool (!x)) w := fun _ _ => rfl
  go_enter_defers Try.func68, Try.ntmps68
  go_wp2_with (first | (go_at_call 90; refine (once_lock ⟨b, 1, none⟩ _ h1 f1).mono ?_; rintro e w' ⟨rfl, rfl⟩) | (go_at_call 67; go_in))
  refine HF.out.mono ?_
  rintro e W ⟨rfl, hW⟩
  obtain ⟨q0, q1, q2, q3⟩ := HP.out W hW
  have HW := hide hW
  clear hW HF HP
  go_wp2
  refine leaves_cons (f := 92) (args := #[.pointer (some ⟨b, 0, none⟩), .bool true]) (by simp) (by simp [go_sem]) ?_
  refine (once_store ⟨b, 0, none⟩ (.int .u32 0) .returning _ q0 q2).mono ?_
  rintro e u' w'' ⟨rfl, rfl, rfl⟩
  refine leaves_cons (f := 91) (args := #[.pointer (some ⟨b, 1, none⟩)]) (by simp [settle]) (by simp [go_sem]) ?_
  refine (once_unlock ⟨b, 1, none⟩ _ _ ?_ (by simp [q3])).mono ?_
  · refine (World.cell?_setCell_other _ ⟨b, 0, none⟩ ⟨b, 1, none⟩ _ (by simp)).trans ?_
    rw [World.cell?_drew]
    exact q1
  rintro e u' w'' ⟨rfl, rfl, rfl⟩
  have HR := HW.out
  simp [Leaves, settle, results, Try.results68]
  exact ⟨W, HR, rfl⟩
theorem do_first (b : Nat) (P : World → Prop) (w : World) (h0 : w.cell? ⟨b, 0, none⟩ = some (.int .u32 0)) (h1 : w.cell? ⟨b, 1, none⟩ = some (.int .i32 0))
    (f0 : w.frozen? ⟨b, 0, none⟩ = false) (f1 : w.frozen? ⟨b, 1, none⟩ = false)
    (HF : Hid (Calls Try.prog 44 #[.pointer (some ⟨b, 0, none⟩)] (w.setCell ⟨b, 1, none⟩ (.int .i32 1)) fun e w' => e = .returned (.tuple #[]) ∧ P w'))
    (HP : Hid (∀ W, P W → W.cell? ⟨b, 0, none⟩ = some (.int .u32 0) ∧ W.cell? ⟨b, 1, none⟩ = some (.int .i32 1) ∧ W.frozen? ⟨b, 0, none⟩ = false ∧ W.frozen? ⟨b, 1, none⟩ = false)) :
    Calls Try.prog 43 #[.pointer (some ⟨b, 0, none⟩), .func (.func 44) #[.pointer (some ⟨b, 0, none⟩)] #[]] w fun e w' => e = .returned (.tuple #[]) ∧ ∃ W, P W ∧ w' = (W.drew.setCell ⟨b, 0, none⟩ (.int .u32 1)).setCell ⟨b, 1, none⟩ (.int .i32 0) := by
  have hl := run_call_load (P := Try.prog) Try.func89 (by kernel_rfl) (by kernel_rfl) (by kernel_rfl) .u32 (by kernel_rfl) h0
  have hnot : ∀ (x : Bool) (w : World), (Op.unary .not (.bool x)).run Try.prog w = .ok (.bool (!x)) w := fun _ _ => rfl
  go_enter Try.func43, Try.ntmps43
  go_wp2_with (go_at_call 67; go_in)
  refine (slow_any b P w h0 h1 f0 f1 HF HP).mono ?_
  rintro e w' ⟨rfl, hw⟩
  have HW := hide hw
  clear hw HF HP
  go_wp2
  go_end0
  exact ⟨rfl, HW.out⟩

/-- sort.Search: the first place at which a predicate holds that holds from there on. -/
theorem search_at (fid n S : Nat) (caps : Array Value) (hS : S ≤ n) (hn : n ≤ 100000) (w : World)
    (hent : ∀ args w, (callFunc fid args).run Try.prog w = .ok (.enter fid args) w)
    (HC : Hid (∀ s : Nat, s < n → Calls Try.prog fid (#[.int .i64 (s : Nat)] ++ caps) w fun e w' => e = .returned (.bool (decide (S ≤ s))) ∧ w' = w)) :
    Calls Try.prog 93 #[.int .i64 (n : Nat), .func (.func fid) #[] caps] w fun e w' => e = .returned (.int .i64 (S : Nat)) ∧ w' = w := by
  have hnot : ∀ (x : Bool) (w : World), (Op.unary .not (.bool x)).run Try.prog w = .ok (.bool (!x)) w := fun _ _ => rfl
  go_enter Try.func93, Try.ntmps93
  go_wp2
  go_loopw [5, 6] (fun i j wr => ∃ (x y : Nat), x ≤ S ∧ S ≤ y ∧ y ≤ n ∧ i = .int .i64 (x : Nat) ∧ j = .int .i64 (y : Nat) ∧ wr = w)
    (fun i j _ => (intOf j).toNat - (intOf i).toNat)
  case atStart => exact ⟨0, n, by omega, hS, by omega, rfl, rfl, rfl⟩
  case round =>
    obtain ⟨x, y, h1, h2, h3, rfl, rfl, rfl⟩ := hrel
    by_cases hlt : x < y
    · have hlt' : (x : Int) < (y : Int) := by omega
      obtain ⟨m, hm⟩ : ∃ m, (x + y) / 2 = m := ⟨_, rfl⟩
      have hw1 : IntKind.i64.wrap ((x : Int) + (y : Int)) = ((x + y : Nat) : Int) := by rw [IntKind.wrap_i64]; omega
      have hw2 : IntKind.u64.wrap ((x + y : Nat) : Int) = ((x + y : Nat) : Int) := by rw [IntKind.wrap_u64]; omega
      have e1 : ((x : Int) + (y : Int)) / 2 = ((m : Nat) : Int) := by omega
      have h4 : m < n := by omega
      have h5 : x ≤ m := by omega
      have h6 : m < y := by omega
      have hw3 : IntKind.i64.wrap ((m : Int) + 1) = ((m + 1 : Nat) : Int) := by rw [IntKind.wrap_i64]; omega
      clear hm
      go_wp2_with fail

      clear hw1 hw2
      by_cases hSm : S ≤ m
      · have h := HC.out m h4
        rw [decide_eq_true hSm] at h
        refine h.mono ?_
        rintro e' w' ⟨rfl, rfl⟩
        clear h
        go_wp2
        go_roundw
        case rel => exact ⟨x, m, h1, hSm, by omega, rfl, rfl, by first | rfl | trivial⟩
        case measure => simp [intOf]; omega
      · have h := HC.out m h4
        rw [decide_eq_false hSm] at h
        refine h.mono ?_
        rintro e' w' ⟨rfl, rfl⟩
        clear h
        go_wp2
        go_roundw
        case rel => exact ⟨m + 1, y, by omega, h2, h3, rfl, rfl, by first | rfl | trivial⟩
        case measure => simp [intOf]; omega
    · have hlt' : ¬ (x : Int) < (y : Int) := by omega
      have e3 : S = x := by omega
      subst e3
      go_wp2
      exact bodyPost_ret (v := .int .i64 (S : Nat)) (by simp [results, Try.results93, go_sem]) rfl ⟨rfl, rfl⟩

theorem root1_any (p q s : Nat) (w : World) (hc : w.cell? ⟨p, 0, none⟩ = some (.int .i64 (q : Nat))) (hs : s < 1024) :
    Calls Try.prog 94 (#[.int .i64 (s : Nat)] ++ #[.pointer (some ⟨p, 0, none⟩)]) w fun e w' => e = .returned (.bool (decide (q < (s + 1) * (s + 1)))) ∧ w' = w := by
  have hw1 : IntKind.i64.wrap ((s : Int) + 1) = ((s + 1 : Nat) : Int) := by rw [IntKind.wrap_i64]; omega
  have hb : (s + 1) * (s + 1) ≤ 1024 * 1024 := Nat.mul_le_mul (by omega) (by omega)
  obtain ⟨t, ht⟩ : ∃ t, s + 1 = t := ⟨_, rfl⟩
  rw [ht] at hw1 hb
  rw [ht]
  clear ht
  have hw2 : IntKind.i64.wrap ((t : Int) * (t : Int)) = ((t * t : Nat) : Int) := by rw [← Int.natCast_mul, IntKind.wrap_i64]; omega
  have hd : decide (((q : Nat) : Int) < ((t * t : Nat) : Int)) = decide (q < t * t) := by rw [decide_eq_decide]; omega
  generalize t * t = u at *
  go_enter Try.func94, Try.ntmps94
  go_wp2
  exact bodyPost_ret (v := .bool (decide (q < u))) (by simp [results, Try.results94, go_sem]) rfl ⟨rfl, rfl⟩

/-- rom.root. -/
theorem rootR_any (q S : Nat) (hS : S * S ≤ q) (hq : q < (S + 1) * (S + 1)) (hb : S ≤ 1023) (w : World) :
    Calls Try.prog 72 #[.int .i64 (q : Nat)] w fun e w' => e = .returned (.int .u64 (S : Nat)) ∧ Below w.heap.size w w' := by
  have hcell : (w.alloc (.cells #[.int .i64 (q : Nat)] 3)).cell? ⟨w.heap.size, 0, none⟩ = some (.int .i64 (q : Nat)) := by simp [go_sem]
  have HC := hide (search_at 94 1024 S #[.pointer (some ⟨w.heap.size, 0, none⟩)] (by omega) (by omega) (w.alloc (.cells #[.int .i64 (q : Nat)] 3)) (enters_of Try.func94 (by kernel_rfl) rfl) (hide fun s hs => by
    refine (root1_any w.heap.size q s _ hcell hs).mono ?_
    rintro e w' ⟨rfl, rfl⟩
    refine ⟨?_, rfl⟩
    rw [show decide (q < (s + 1) * (s + 1)) = decide (S ≤ s) from ?_]
    rw [decide_eq_decide]
    constructor
    · intro h
      rcases Nat.lt_or_ge s S with h1 | h1
      · have h2 := Nat.mul_le_mul (show s + 1 ≤ S by omega) (show s + 1 ≤ S by omega)
        omega
      · exact h1
    · intro h
      have h2 := Nat.mul_le_mul (show S + 1 ≤ s + 1 by omega) (show S + 1 ≤ s + 1 by omega)
      omega))
  have hu : IntKind.u64.wrap ((S : Nat) : Int) = ((S : Nat) : Int) := by rw [IntKind.wrap_u64]; omega
  clear hS hq hcell
  go_enter Try.func72, Try.ntmps72
  go_wp2_with fail
  refine HC.out.mono ?_
  rintro e' w' ⟨rfl, rfl⟩
  clear HC
  go_wp2
  exact bodyPost_ret (v := .int .u64 (S : Nat)) (by simp [results, Try.results72, go_sem]) rfl ⟨rfl, below_allocs _ _⟩

/-- What fill tells each of the first table. -/
theorem fill1_any (i : Nat) (h : i < 64) (w : World) : Calls Try.prog 70 #[.int .i64 (i : Nat)] w fun e w' => e = .returned (.int .u64 (rcN i : Nat)) ∧ Below w.heap.size w w' := by
  have hb := rcN_all i h
  obtain ⟨t, ht⟩ : ∃ t : Int, IntKind.i64.wrap (2 * (i : Int)) = t := ⟨_, rfl⟩
  obtain ⟨m, hm⟩ : ∃ m : Int, IntKind.i64.wrap (129 + t) = m := ⟨_, rfl⟩
  have e1 : t = 2 * (i : Int) := by rw [← ht, IntKind.wrap_i64]; omega
  have e2 : m = 129 + 2 * (i : Int) := by rw [← hm, IntKind.wrap_i64]; omega
  have hm1 : (m == 0) = false := by rw [beq_eq_false_iff_ne]; omega
  have hm0 : ¬ m = 0 := by omega
  have hq : (131072 : Int).tdiv m = ((rcN i : Nat) : Int) := by
    rw [e2, Int.tdiv_eq_ediv_of_nonneg (by decide)]
    unfold rcN
    have e : ((129 + 2 * i : Nat) : Int) = 129 + 2 * (i : Int) := by omega
    rw [Int.natCast_ediv, e]
    rfl
  obtain ⟨r, hr⟩ : ∃ r, rcN i = r := ⟨_, rfl⟩
  rw [hr] at hq hb
  rw [hr]
  have hc : IntKind.u64.wrap (r : Int) = (r : Int) := by rw [IntKind.wrap_u64]; omega
  have hc2 : IntKind.i64.wrap (r : Int) = (r : Int) := by rw [IntKind.wrap_i64]; omega
  clear e1 e2 hr hb
  go_enter Try.func70, Try.ntmps70
  go_wp2
  exact bodyPost_ret (v := .int .u64 (r : Nat)) (by simp [results, Try.results70, go_sem]) rfl ⟨rfl, Below.refl _ _⟩

/-- What fill tells each of the second table. -/
theorem fill2_any (i : Nat) (h : i < 96) (w : World) : Calls Try.prog 71 #[.int .i64 (i : Nat)] w fun e w' => e = .returned (.int .u64 (rtN (32 + i) : Nat)) ∧ Below w.heap.size w w' := by
  have hb := rtN_all i h
  obtain ⟨s, hs⟩ : ∃ s : Int, IntKind.i64.wrap ((i : Int) + 32) = s := ⟨_, rfl⟩
  obtain ⟨t, ht⟩ : ∃ t : Int, IntKind.i64.wrap (2 * s) = t := ⟨_, rfl⟩
  obtain ⟨m, hm⟩ : ∃ m : Int, IntKind.i64.wrap (t + 1) = m := ⟨_, rfl⟩
  have e0 : s = (i : Int) + 32 := by rw [← hs, IntKind.wrap_i64]; omega
  have e1 : t = 2 * ((i : Int) + 32) := by rw [← ht, e0, IntKind.wrap_i64]; omega
  have e2 : m = 2 * ((i : Int) + 32) + 1 := by rw [← hm, e1, IntKind.wrap_i64]; omega
  have hm1 : (m == 0) = false := by rw [beq_eq_false_iff_ne]; omega
  have hm0 : ¬ m = 0 := by omega
  obtain ⟨q, hqd⟩ : ∃ q, 67108864 / (2 * (32 + i) + 1) = q := ⟨_, rfl⟩
  have hq : (67108864 : Int).tdiv m = ((q : Nat) : Int) := by
    rw [e2, Int.tdiv_eq_ediv_of_nonneg (by decide), ← hqd]
    have e : ((2 * (32 + i) + 1 : Nat) : Int) = 2 * ((i : Int) + 32) + 1 := by omega
    rw [Int.natCast_ediv, e]
    rfl
  rw [hqd] at hb
  obtain ⟨r, hr⟩ : ∃ r, rtN (32 + i) = r := ⟨_, rfl⟩
  rw [hr] at hb
  rw [hr]
  have hc2 : IntKind.i64.wrap (q : Int) = (q : Int) := by
    have : 67108864 / (2 * (32 + i) + 1) ≤ 67108864 := Nat.div_le_self _ _
    rw [IntKind.wrap_i64]; omega
  have HR := hide (fun w => rootR_any q r hb.1 hb.2.1 (by omega) w)
  clear e0 e1 e2 hr hb hqd
  go_enter Try.func71, Try.ntmps71
  go_wp2_with fail
  refine (HR.out _).mono ?_
  rintro e' w' ⟨rfl, hb⟩
  have HB := hide hb
  clear hb HR
  go_wp2
  exact bodyPost_ret (v := .int .u64 (r : Nat)) (by simp [results, Try.results71, go_sem]) rfl ⟨rfl, HB.out⟩
end Go.Proofs.Yteocibahclpegaa

