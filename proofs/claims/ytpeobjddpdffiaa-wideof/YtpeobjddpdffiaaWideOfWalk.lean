/- The walk over radicandlaw02.WideOf. -/
import Derived.Test.YtpeobjddpdffiaaWideJ
set_option linter.unusedVariables false
namespace Go.Proofs.Ytpeobjddpdffiaa
open Go.RowKit Plain

set_option maxHeartbeats 4000000 in
theorem wideOf_walk (n : Nat) (l : List Nat) (v : Value) (w : World) (hr : Rd mk64 w v l) (hd : Dig 18446744073709551616 l n) :
    Calls Try.prog 10 #[v] w fun e w' => e = .returned (.bool true) ∧ Below w.heap.size w w' := by
  have hr' := hr
  obtain ⟨ao, ca, rfl, hca, hma, -⟩ := hr'
  unfold maxLen at hma
  have HR := hide hr
  have HD := hide hd
  clear hr hd
  by_cases hl : 40 < l.length
  · have hl' : 40 < (l.length : Int) := by omega
    go_enter Try.func10, Try.ntmps10
    go_wp2_with (go_at_call 38; refine (awake2_any _).mono ?_; rintro e w1 ⟨rfl, hb1⟩)
    go_ret
    exact ⟨rfl, hb1⟩
  · have hl' : ¬ 40 < (l.length : Int) := by omega
    go_enter Try.func10, Try.ntmps10
    go_wp2_with fail
    refine (of_any l n _ _ HR.out HD.out (by omega)).mono ?_
    rintro e w1 ⟨v1, rfl, hbig, hb1⟩
    have HBG := hide hbig
    clear hbig
    go_wp2_with fail
    refine (refWide_any n _ _ _ HBG.out).mono ?_
    rintro e w2 ⟨rfl, hb2⟩
    have HB := hide (below_trans hb1 hb2)
    clear hb1 hb2 HBG
    have hr2 := HR.out.below HB.out
    have HR2 := hide (hr2.below ((Below.refl w2.heap.size w2).alloc (Nat.le_refl _) (.cells #[.int .u64 (dgl (n) 0 : Nat), .int .u64 (dgl (n) 1 : Nat), .int .u64 (dgl (n) 2 : Nat), .int .u64 (dgl (n) 3 : Nat), .int .u64 (dgl (n) 4 : Nat), .int .u64 (dgl (n) 5 : Nat), .int .u64 (dgl (n) 6 : Nat), .int .u64 (dgl (n) 7 : Nat)] 50)))
    clear hr2 HR
    have HO := hide (fun w hr => wideOf_any l n (.slice ao l.length ca) w hr (fun i _ => HD.out.2 i))
    go_wp2
    go_region_with (first
      | (go_at_call 58; refine (HO.out _ HR2.out.drew).mono ?_; rintro e w3 ⟨rfl, hb3⟩; replace hb3 := below_of_drew hb3; have hv3 : ∀ i, i < 8 → w3.cell? ⟨w2.heap.size, i, none⟩ = some (.int .u64 (dgl n i : Nat)) := (lies_alloc w2 n 50).below hb3 (by simp))
      | (go_at_call 38; refine (awake2_any _).mono ?_; rintro e w4 ⟨rfl, hb4⟩))
    all_goals
      go_wp2
      go_ret
      exact ⟨rfl, below_trans HB.out (below_trans (below_alloc_then hb3) hb4)⟩

end Go.Proofs.Ytpeobjddpdffiaa
