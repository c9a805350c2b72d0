/- Contracts and laws: FmtF. -/
import Derived.Test.YtjklehlkgccmnaaDoorXFmtE
/- Contracts: law05.awake. -/
set_option linter.unusedVariables false
set_option linter.unusedSimpArgs false
set_option maxRecDepth 8000
namespace Go.Proofs.YtjklehlkgccmnaaDoor
open Go.RowKit Plain

theorem dgl_lit {n i x : Nat} (h : dgl n i = x) : (Value.int .u64 ((dgl n i : Nat) : Int)) = .int .u64 (x : Int) := by rw [h]

set_option maxHeartbeats 1000000 in
theorem awake5_any (w : World) (hg : FmtG w) : Calls Tryd.prog 13 #[] w fun e w' => e = .returned (.bool true) ∧ Below w.heap.size w w' := by
  have h1 := fun w hg => inf_2 true w hg
  rw [show dgl (bif true then 4286578688 else 2139095040) 1 = 0 by decide +kernel, show dgl (bif true then 4286578688 else 2139095040) 0 = 4286578688 by decide +kernel] at h1
  have h2 := fun w hg => max_1 false w hg
  rw [show dgl (bif false then 64511 else 31743) 1 = 0 by decide +kernel, show dgl (bif false then 64511 else 31743) 0 = 31743 by decide +kernel] at h2
  have H1 := hide h1
  have H2 := hide h2
  have HG := hide hg
  clear h1 h2 hg
  go_enter Tryd.func13, Tryd.ntmps13
  go_wp2_with fail
  refine (H1.out _ HG.out).mono ?_
  rintro e w1 ⟨rfl, hb1⟩
  replace HG := hide (HG.out.below hb1)
  go_wp2_with fail
  refine (H2.out _ HG.out).mono ?_
  rintro e w2 ⟨rfl, hb2⟩
  have HB := hide (below_trans hb1 hb2)
  clear HG hb1 hb2
  go_wp2
  go_ret
  exact ⟨rfl, HB.out⟩

end Go.Proofs.YtjklehlkgccmnaaDoor

