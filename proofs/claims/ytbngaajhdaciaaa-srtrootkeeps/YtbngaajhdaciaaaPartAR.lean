/- Contracts and laws: ProdF, ProdG, ProdJ, RdxB, FlyA, FlyB, FlyC, FlyI, FlyJ. -/
import Derived.Test.YtbngaajhdaciaaaPartAM
import Derived.Test.YtbngaajhdaciaaaPartAN
import Derived.Deep.DeepCutAuto
import Derived.Test.YtbngaajhdaciaaaPartAQ
import Derived.Test.YtbngaajhdaciaaaPartAL
import Derived.Test.YtbngaajhdaciaaaPartAG
/- Contracts: prod.High. -/
set_option linter.unusedVariables false
set_option linter.unusedSimpArgs false
set_option maxRecDepth 8000
namespace Go.Proofs.Ytbngaajhdaciaaa
open Go.RowKit Plain

end Go.Proofs.Ytbngaajhdaciaaa

/- Contracts: radicandref03.Mul; radicandlaw03.awake. -/
set_option linter.unusedVariables false
set_option linter.unusedSimpArgs false
set_option maxRecDepth 8000
namespace Go.Proofs.Ytbngaajhdaciaaa
open Go.RowKit Plain

theorem power_lt (n q : Nat) (hq : 2 ^ q = QQ) (h : n < q) (x : Int) (hx : x = (n : Int)) (hq5 : q = 512) (w : World) :
    Calls Try.prog 49 #[.int .i64 x] w fun e w' => e = .returned (.agg #[.int .u64 (dgl (2 ^ n) 0 : Nat), .int .u64 (dgl (2 ^ n) 1 : Nat), .int .u64 (dgl (2 ^ n) 2 : Nat), .int .u64 (dgl (2 ^ n) 3 : Nat), .int .u64 (dgl (2 ^ n) 4 : Nat), .int .u64 (dgl (2 ^ n) 5 : Nat), .int .u64 (dgl (2 ^ n) 6 : Nat), .int .u64 (dgl (2 ^ n) 7 : Nat)]) ∧ Below w.heap.size w w' := by
  subst hx
  have h1 := widePower_any (n : Int) (by omega) w
  have e1 : roomI (n : Int) = (n : Int) := by unfold roomI; omega
  rw [e1, sh_up, Nat.one_mul] at h1
  exact h1

end Go.Proofs.Ytbngaajhdaciaaa

/- Contracts: prod.Power. -/
set_option linter.unusedVariables false
set_option linter.unusedSimpArgs false
set_option maxRecDepth 8000
namespace Go.Proofs.Ytbngaajhdaciaaa
open Go.RowKit Plain

end Go.Proofs.Ytbngaajhdaciaaa

/- Contracts: the document's quotients (radicandref11). -/
set_option linter.unusedVariables false
set_option linter.unusedSimpArgs false
set_option maxRecDepth 8000
namespace Go.Proofs.Ytbngaajhdaciaaa
open Go.RowKit Plain

theorem bitLen_above (d k : Nat) : k < Go.bitLen d ↔ 2 ^ k ≤ d := by
  constructor
  · intro h
    rcases Nat.lt_or_ge d (2 ^ k) with h1 | h1
    · have := bitLen_le d k h1
      omega
    · exact h1
  · intro h
    rcases Nat.lt_or_ge k (Go.bitLen d) with h1 | h1
    · exact h1
    · have h2 := bitLen_lt d
      have h3 : 2 ^ Go.bitLen d ≤ 2 ^ k := Nat.pow_le_pow_right (by decide) h1
      omega
/-- Two wides in boxes, of a call's own. -/
structure TwSt (a b : Nat) (w W : World) : Prop where
  la : LiesF W w.heap.size (dgl a)
  lb : LiesF W (w.heap.size + 1) (dgl b)
  bel : Below w.heap.size w W
theorem TwSt.under {a b : Nat} {w W W' : World} (h : TwSt a b w W) {C : Nat} (hb : Below C W W') (hc : w.heap.size + 1 < C) : TwSt a b w W' :=
  ⟨lies_box h.la hb (by omega), lies_box h.lb hb hc, h.bel.trans (hb.mono (by omega))⟩
theorem TwSt.below {a b : Nat} {w W W' : World} (h : TwSt a b w W) (hb : Below W.heap.size W W') : TwSt a b w W' := h.under hb h.lb.2
theorem twSt_start (a b : Nat) (w : World) (e1 e2 : TypeId) : TwSt a b w ((w.alloc (.cells #[.int .u64 (dgl (a) 0 : Nat), .int .u64 (dgl (a) 1 : Nat), .int .u64 (dgl (a) 2 : Nat), .int .u64 (dgl (a) 3 : Nat), .int .u64 (dgl (a) 4 : Nat), .int .u64 (dgl (a) 5 : Nat), .int .u64 (dgl (a) 6 : Nat), .int .u64 (dgl (a) 7 : Nat)] e1)).alloc (.cells #[.int .u64 (dgl (b) 0 : Nat), .int .u64 (dgl (b) 1 : Nat), .int .u64 (dgl (b) 2 : Nat), .int .u64 (dgl (b) 3 : Nat), .int .u64 (dgl (b) 4 : Nat), .int .u64 (dgl (b) 5 : Nat), .int .u64 (dgl (b) 6 : Nat), .int .u64 (dgl (b) 7 : Nat)] e2)) := by
  have h := liesF_new (w.alloc (.cells #[.int .u64 (dgl (a) 0 : Nat), .int .u64 (dgl (a) 1 : Nat), .int .u64 (dgl (a) 2 : Nat), .int .u64 (dgl (a) 3 : Nat), .int .u64 (dgl (a) 4 : Nat), .int .u64 (dgl (a) 5 : Nat), .int .u64 (dgl (a) 6 : Nat), .int .u64 (dgl (a) 7 : Nat)] e1)) (dgl b) e2
  rw [World.size_alloc] at h
  exact ⟨(liesF_new w (dgl a) e1).alloc _, h, below_trans (below_allocs w _) (below_allocs _ _)⟩

end Go.Proofs.Ytbngaajhdaciaaa

/- Contracts: fly.known, behind, New, Next. -/
set_option linter.unusedVariables false
set_option linter.unusedSimpArgs false
set_option maxRecDepth 8000
namespace Go.Proofs.Ytbngaajhdaciaaa
open Go.RowKit Plain

end Go.Proofs.Ytbngaajhdaciaaa

/- Contracts: fly.New, Next. -/
set_option linter.unusedVariables false
set_option linter.unusedSimpArgs false
set_option maxRecDepth 8000
namespace Go.Proofs.Ytbngaajhdaciaaa
open Go.RowKit Plain

end Go.Proofs.Ytbngaajhdaciaaa

/- Contracts: fly.Next. -/
set_option linter.unusedVariables false
set_option linter.unusedSimpArgs false
set_option maxRecDepth 8000
namespace Go.Proofs.Ytbngaajhdaciaaa
open Go.RowKit Plain

end Go.Proofs.Ytbngaajhdaciaaa

/- Contracts: radicandref13.Sum. -/
set_option linter.unusedVariables false
set_option linter.unusedSimpArgs false
set_option maxRecDepth 8000
namespace Go.Proofs.Ytbngaajhdaciaaa
open Go.RowKit Plain

end Go.Proofs.Ytbngaajhdaciaaa

/- Contracts: radicandref13.Wide, Same. -/
set_option linter.unusedVariables false
set_option linter.unusedSimpArgs false
set_option maxRecDepth 8000
namespace Go.Proofs.Ytbngaajhdaciaaa
open Go.RowKit Plain

set_option maxHeartbeats 1000000 in
theorem same13_any (la lb : List Nat) (va vb : Value) (w : World) (ha : Rd mkZ w va la) (hb : Rd mkZ w vb lb) (hn : la.length ≤ 1000) (hl : lb.length = la.length) (he : ∀ i, i < la.length → dg la i = dg lb i) :
    Calls Try.prog 13 #[va, vb] w fun e w' => e = .returned (.bool true) ∧ Below w.heap.size w w' := by
  obtain ⟨ao, ca, rfl, hca, hma, ra⟩ := ha
  obtain ⟨bo, cb, rfl, hcb, hmb, rb⟩ := hb
  unfold maxLen at hma hmb
  rw [hl] at rb hcb ⊢
  have RA := hide ra
  have RB := hide rb
  have HE := hide he
  clear ra rb he hl
  go_enter Try.func13, Try.ntmps13
  go_wp2
  go_loopw [5] (fun i wr => ∃ (k q : Nat), k ≤ la.length ∧ i = .int .i64 k ∧ wr = w.drewN q)
    (fun i _ => la.length - (intOf i).toNat)
  case atStart => exact ⟨0, 0, by omega, rfl, rfl⟩
  case round =>
    obtain ⟨k, q, hk, rfl, rfl⟩ := hrel
    by_cases hlt : k < la.length
    · rcases RA.out with hc | ⟨b, off, rfl, hbl, hcell⟩
      · omega
      · rcases RB.out with hc2 | ⟨b2, off2, rfl, hbl2, hcell2⟩
        · omega
        · have c1 : w.cell? ⟨b, off + k, none⟩ = some (mkZ (dg la k)) := hcell k hlt
          have c2 : w.cell? ⟨b2, off2 + k, none⟩ = some (mkZ (dg lb k)) := hcell2 k hlt
          rw [← HE.out k hlt] at c2
          unfold mkZ at c1 c2
          have j1 : (k : Int) < (la.length : Int) := by omega
          clear hcell hcell2
          generalize zof (dg la k) = z at *
          have hq2 : (z != z) = false := by simp
          go_wp2
          go_quiet (fail)
          go_wp2
          go_roundw
          case rel => exact ⟨k + 1, _, by omega, by go_num, rfl⟩
          case measure => simp [intOf]; omega
    · go_wp2
      go_ret
      exact ⟨rfl, below_drewN' (Below.refl _ _) _⟩
end Go.Proofs.Ytbngaajhdaciaaa

