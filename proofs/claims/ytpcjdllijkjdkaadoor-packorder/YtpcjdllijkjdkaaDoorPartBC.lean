/- Contracts and laws: UnpH, UnpI. -/
import Derived.Test.YtpcjdllijkjdkaaDoorPartAW
/- Contracts: unpack.sign, greater, Cmp; cmp.Compare. -/
set_option linter.unusedVariables false
set_option linter.unusedSimpArgs false
set_option maxRecDepth 8000
namespace Go.Proofs.YtpcjdllijkjdkaaDoor
open Go.RowKit Plain

def sgnZ (neg : Bool) (s : Nat) : Int := if s = 0 then 0 else if neg then -1 else 1
def cmpI (x y : Int) : Int := if x < y then -1 else if y < x then 1 else 0
theorem usign_any (neg : Bool) (z : Int) (s : Nat) (hs : s < QQ) (w : World) : Calls Tryd.prog 84 #[.agg #[.bool (neg), .int .i64 (z), .int .u64 (dgl (s) 0 : Nat), .int .u64 (dgl (s) 1 : Nat), .int .u64 (dgl (s) 2 : Nat), .int .u64 (dgl (s) 3 : Nat), .int .u64 (dgl (s) 4 : Nat), .int .u64 (dgl (s) 5 : Nat), .int .u64 (dgl (s) 6 : Nat), .int .u64 (dgl (s) 7 : Nat)]] w fun e w' => e = .returned (.int .i64 (sgnZ neg s)) ∧ Below w.heap.size w w' := by
  have hq := fun w => wide_eqz hs w
  have HB := hide (below_allocs w (.cells #[.bool (neg), .int .i64 (z), .int .u64 (dgl (s) 0 : Nat), .int .u64 (dgl (s) 1 : Nat), .int .u64 (dgl (s) 2 : Nat), .int .u64 (dgl (s) 3 : Nat), .int .u64 (dgl (s) 4 : Nat), .int .u64 (dgl (s) 5 : Nat), .int .u64 (dgl (s) 6 : Nat), .int .u64 (dgl (s) 7 : Nat)] 26))
  clear hs
  by_cases h0 : s = 0
  · rw [decide_eq_true h0] at hq
    rw [show sgnZ neg s = 0 from if_pos h0]
    clear h0
    go_enter Tryd.func84, Tryd.ntmps84
    go_wp2
    go_ret
    exact ⟨rfl, HB.out⟩
  · rw [decide_eq_false h0] at hq
    rw [show sgnZ neg s = if neg then -1 else 1 from if_neg h0]
    clear h0
    cases neg
    · go_enter Tryd.func84, Tryd.ntmps84
      go_wp2
      go_ret
      exact ⟨rfl, HB.out⟩
    · go_enter Tryd.func84, Tryd.ntmps84
      go_wp2
      go_ret
      exact ⟨rfl, HB.out⟩
theorem isNaNI_any (x : Int) (w : World) : Calls Tryd.prog 129 #[.int .i64 x] w fun e w' => e = .returned (.bool false) ∧ w' = w := by
  go_enter Tryd.func129, Tryd.ntmps129
  go_wp2
  go_ret
  exact ⟨rfl, rfl⟩
theorem compareI_any (x y : Int) (w : World) : Calls Tryd.prog 85 #[.int .i64 x, .int .i64 y] w fun e w' => e = .returned (.int .i64 (cmpI x y)) ∧ w' = w := by
  have HC : Hid (cmpI x y = if x < y then -1 else if y < x then 1 else 0) := rfl
  by_cases h1 : x < y
  · rw [show cmpI x y = -1 from if_pos h1]
    go_enter Tryd.func85, Tryd.ntmps85
    go_wp2_with fail
    refine (isNaNI_any _ _).mono ?_
    rintro e wl ⟨rfl, hw⟩
    subst wl
    go_wp2_with fail
    refine (isNaNI_any _ _).mono ?_
    rintro e wl ⟨rfl, hw⟩
    subst wl
    go_wp2
    go_ret
    exact ⟨rfl, rfl⟩
  by_cases h2 : y < x
  · rw [show cmpI x y = 1 by unfold cmpI; rw [if_neg h1, if_pos h2]]
    go_enter Tryd.func85, Tryd.ntmps85
    go_wp2_with fail
    refine (isNaNI_any _ _).mono ?_
    rintro e wl ⟨rfl, hw⟩
    subst wl
    go_wp2_with fail
    refine (isNaNI_any _ _).mono ?_
    rintro e wl ⟨rfl, hw⟩
    subst wl
    go_wp2
    go_ret
    exact ⟨rfl, rfl⟩
  · rw [show cmpI x y = 0 by unfold cmpI; rw [if_neg h1, if_neg h2]]
    go_enter Tryd.func85, Tryd.ntmps85
    go_wp2_with fail
    refine (isNaNI_any _ _).mono ?_
    rintro e wl ⟨rfl, hw⟩
    subst wl
    go_wp2_with fail
    refine (isNaNI_any _ _).mono ?_
    rintro e wl ⟨rfl, hw⟩
    subst wl
    go_wp2
    go_ret
    exact ⟨rfl, rfl⟩

structure GrSt (n1 n2 : Bool) (ea eb : Int) (a b : Nat) (w W : World) : Prop where
  a : NB W w.heap.size n1 ea a
  b : NB W (w.heap.size + 1) n2 eb b
  bel : Below w.heap.size w W
theorem GrSt.below {n1 n2 : Bool} {ea eb : Int} {a b : Nat} {w W W' : World} (h : GrSt n1 n2 ea eb a b w W) (hb : Below W.heap.size W W') : GrSt n1 n2 ea eb a b w W' :=
  ⟨h.a.below hb, h.b.below hb, below_trans h.bel hb⟩
theorem grSt_start (n1 n2 : Bool) (ea eb : Int) (a b : Nat) (w : World) : GrSt n1 n2 ea eb a b w ((w.alloc (.cells #[.bool (n1), .int .i64 (ea), .int .u64 (dgl (a) 0 : Nat), .int .u64 (dgl (a) 1 : Nat), .int .u64 (dgl (a) 2 : Nat), .int .u64 (dgl (a) 3 : Nat), .int .u64 (dgl (a) 4 : Nat), .int .u64 (dgl (a) 5 : Nat), .int .u64 (dgl (a) 6 : Nat), .int .u64 (dgl (a) 7 : Nat)] 26)).alloc (.cells #[.bool (n2), .int .i64 (eb), .int .u64 (dgl (b) 0 : Nat), .int .u64 (dgl (b) 1 : Nat), .int .u64 (dgl (b) 2 : Nat), .int .u64 (dgl (b) 3 : Nat), .int .u64 (dgl (b) 4 : Nat), .int .u64 (dgl (b) 5 : Nat), .int .u64 (dgl (b) 6 : Nat), .int .u64 (dgl (b) 7 : Nat)] 26)) := by
  have h1 := nb_new (w.alloc (.cells #[.bool (n1), .int .i64 (ea), .int .u64 (dgl (a) 0 : Nat), .int .u64 (dgl (a) 1 : Nat), .int .u64 (dgl (a) 2 : Nat), .int .u64 (dgl (a) 3 : Nat), .int .u64 (dgl (a) 4 : Nat), .int .u64 (dgl (a) 5 : Nat), .int .u64 (dgl (a) 6 : Nat), .int .u64 (dgl (a) 7 : Nat)] 26)) n2 eb b 26
  rw [World.size_alloc] at h1
  exact ⟨(nb_new w n1 ea a 26).below (below_allocs _ _), h1, below_trans (below_allocs _ _) (below_allocs _ _)⟩

set_option maxHeartbeats 2000000 in
theorem greater_D (n1 n2 : Bool) (ea eb : Int) (a b : Nat) (x y r : Int) (o1 o2 : Bool) (la lb u v : Nat)
    (HT1 : Hid (∀ w, Calls Tryd.prog 48 #[.agg #[.bool (n1), .int .i64 (ea), .int .u64 (dgl (a) 0 : Nat), .int .u64 (dgl (a) 1 : Nat), .int .u64 (dgl (a) 2 : Nat), .int .u64 (dgl (a) 3 : Nat), .int .u64 (dgl (a) 4 : Nat), .int .u64 (dgl (a) 5 : Nat), .int .u64 (dgl (a) 6 : Nat), .int .u64 (dgl (a) 7 : Nat)]] w fun e w' => e = .returned (.tuple #[.int .i64 x, .bool o1]) ∧ Below w.heap.size w w'))
    (HT2 : Hid (∀ w, Calls Tryd.prog 48 #[.agg #[.bool (n2), .int .i64 (eb), .int .u64 (dgl (b) 0 : Nat), .int .u64 (dgl (b) 1 : Nat), .int .u64 (dgl (b) 2 : Nat), .int .u64 (dgl (b) 3 : Nat), .int .u64 (dgl (b) 4 : Nat), .int .u64 (dgl (b) 5 : Nat), .int .u64 (dgl (b) 6 : Nat), .int .u64 (dgl (b) 7 : Nat)]] w fun e w' => e = .returned (.tuple #[.int .i64 y, .bool o2]) ∧ Below w.heap.size w w'))
    (HNE : Hid ((x != y) = true)) (w : World) :
    Calls Tryd.prog 86 #[.agg #[.bool (n1), .int .i64 (ea), .int .u64 (dgl (a) 0 : Nat), .int .u64 (dgl (a) 1 : Nat), .int .u64 (dgl (a) 2 : Nat), .int .u64 (dgl (a) 3 : Nat), .int .u64 (dgl (a) 4 : Nat), .int .u64 (dgl (a) 5 : Nat), .int .u64 (dgl (a) 6 : Nat), .int .u64 (dgl (a) 7 : Nat)], .agg #[.bool (n2), .int .i64 (eb), .int .u64 (dgl (b) 0 : Nat), .int .u64 (dgl (b) 1 : Nat), .int .u64 (dgl (b) 2 : Nat), .int .u64 (dgl (b) 3 : Nat), .int .u64 (dgl (b) 4 : Nat), .int .u64 (dgl (b) 5 : Nat), .int .u64 (dgl (b) 6 : Nat), .int .u64 (dgl (b) 7 : Nat)]] w fun e w' => e = .returned (.int .i64 (cmpI x y)) ∧ Below w.heap.size w w' := by
  have HS := hide (grSt_start n1 n2 ea eb a b w)
  go_enter Tryd.func86, Tryd.ntmps86
  go_upto_region 1 with fail
  refine wp_gen (fun W => GrSt n1 n2 ea eb a b w W) HS.out ?_
  clear HS
  rintro W1 g1
  have HS := hide g1
  clear g1
  have ln := HS.out.a.n
  have le := HS.out.a.e
  have l0 := HS.out.a.x0
  have l1 := HS.out.a.x1
  have l2 := HS.out.a.x2
  have l3 := HS.out.a.x3
  have l4 := HS.out.a.x4
  have l5 := HS.out.a.x5
  have l6 := HS.out.a.x6
  have l7 := HS.out.a.x7
  go_wp2_with fail
  refine (HT1.out _).mono ?_
  rintro e w1 ⟨rfl, hb1⟩
  replace HS := hide (HS.out.below hb1)
  clear hb1 ln le l0 l1 l2 l3 l4 l5 l6 l7
  have ln := HS.out.b.n
  have le := HS.out.b.e
  have l0 := HS.out.b.x0
  have l1 := HS.out.b.x1
  have l2 := HS.out.b.x2
  have l3 := HS.out.b.x3
  have l4 := HS.out.b.x4
  have l5 := HS.out.b.x5
  have l6 := HS.out.b.x6
  have l7 := HS.out.b.x7
  go_wp2_with fail
  refine (HT2.out _).mono ?_
  rintro e w2 ⟨rfl, hb2⟩
  replace HS := hide (HS.out.below hb2)
  clear hb2 ln le l0 l1 l2 l3 l4 l5 l6 l7
  have hne := HNE.out
  go_wp2_with fail
  refine (compareI_any _ _ _).mono ?_
  rintro e wl ⟨rfl, hw⟩
  subst wl
  have HB := hide HS.out.bel
  clear HS
  go_wp2
  go_ret
  exact ⟨rfl, HB.out⟩

set_option maxHeartbeats 2000000 in
theorem greater_E (n1 n2 : Bool) (ea eb : Int) (a b : Nat) (x y r : Int) (o1 o2 : Bool) (la lb u v : Nat)
    (HT1 : Hid (∀ w, Calls Tryd.prog 48 #[.agg #[.bool (n1), .int .i64 (ea), .int .u64 (dgl (a) 0 : Nat), .int .u64 (dgl (a) 1 : Nat), .int .u64 (dgl (a) 2 : Nat), .int .u64 (dgl (a) 3 : Nat), .int .u64 (dgl (a) 4 : Nat), .int .u64 (dgl (a) 5 : Nat), .int .u64 (dgl (a) 6 : Nat), .int .u64 (dgl (a) 7 : Nat)]] w fun e w' => e = .returned (.tuple #[.int .i64 x, .bool o1]) ∧ Below w.heap.size w w'))
    (HT2 : Hid (∀ w, Calls Tryd.prog 48 #[.agg #[.bool (n2), .int .i64 (eb), .int .u64 (dgl (b) 0 : Nat), .int .u64 (dgl (b) 1 : Nat), .int .u64 (dgl (b) 2 : Nat), .int .u64 (dgl (b) 3 : Nat), .int .u64 (dgl (b) 4 : Nat), .int .u64 (dgl (b) 5 : Nat), .int .u64 (dgl (b) 6 : Nat), .int .u64 (dgl (b) 7 : Nat)]] w fun e w' => e = .returned (.tuple #[.int .i64 y, .bool o2]) ∧ Below w.heap.size w w'))
    (HNE : Hid ((x != y) = false))
    (hla : la ≤ 512) (hlb : lb ≤ 512)
    (HLA : Hid (∀ w, Calls Tryd.prog 52 #[.agg #[.int .u64 (dgl (a) 0 : Nat), .int .u64 (dgl (a) 1 : Nat), .int .u64 (dgl (a) 2 : Nat), .int .u64 (dgl (a) 3 : Nat), .int .u64 (dgl (a) 4 : Nat), .int .u64 (dgl (a) 5 : Nat), .int .u64 (dgl (a) 6 : Nat), .int .u64 (dgl (a) 7 : Nat)]] w fun e w' => e = .returned (.int .i64 (la : Nat)) ∧ Below w.heap.size w w'))
    (HLB : Hid (∀ w, Calls Tryd.prog 52 #[.agg #[.int .u64 (dgl (b) 0 : Nat), .int .u64 (dgl (b) 1 : Nat), .int .u64 (dgl (b) 2 : Nat), .int .u64 (dgl (b) 3 : Nat), .int .u64 (dgl (b) 4 : Nat), .int .u64 (dgl (b) 5 : Nat), .int .u64 (dgl (b) 6 : Nat), .int .u64 (dgl (b) 7 : Nat)]] w fun e w' => e = .returned (.int .i64 (lb : Nat)) ∧ Below w.heap.size w w'))
    (HSA : Hid (∀ w, Calls Tryd.prog 107 #[.agg #[.int .u64 (dgl (a) 0 : Nat), .int .u64 (dgl (a) 1 : Nat), .int .u64 (dgl (a) 2 : Nat), .int .u64 (dgl (a) 3 : Nat), .int .u64 (dgl (a) 4 : Nat), .int .u64 (dgl (a) 5 : Nat), .int .u64 (dgl (a) 6 : Nat), .int .u64 (dgl (a) 7 : Nat)], .int .i64 (512 - (la : Int))] w fun e w' => e = .returned (.agg #[.int .u64 (dgl (u) 0 : Nat), .int .u64 (dgl (u) 1 : Nat), .int .u64 (dgl (u) 2 : Nat), .int .u64 (dgl (u) 3 : Nat), .int .u64 (dgl (u) 4 : Nat), .int .u64 (dgl (u) 5 : Nat), .int .u64 (dgl (u) 6 : Nat), .int .u64 (dgl (u) 7 : Nat)]) ∧ Below w.heap.size w w'))
    (HSB : Hid (∀ w, Calls Tryd.prog 107 #[.agg #[.int .u64 (dgl (b) 0 : Nat), .int .u64 (dgl (b) 1 : Nat), .int .u64 (dgl (b) 2 : Nat), .int .u64 (dgl (b) 3 : Nat), .int .u64 (dgl (b) 4 : Nat), .int .u64 (dgl (b) 5 : Nat), .int .u64 (dgl (b) 6 : Nat), .int .u64 (dgl (b) 7 : Nat)], .int .i64 (512 - (lb : Int))] w fun e w' => e = .returned (.agg #[.int .u64 (dgl (v) 0 : Nat), .int .u64 (dgl (v) 1 : Nat), .int .u64 (dgl (v) 2 : Nat), .int .u64 (dgl (v) 3 : Nat), .int .u64 (dgl (v) 4 : Nat), .int .u64 (dgl (v) 5 : Nat), .int .u64 (dgl (v) 6 : Nat), .int .u64 (dgl (v) 7 : Nat)]) ∧ Below w.heap.size w w'))
    (HCM : Hid (∀ w, Calls Tryd.prog 130 #[.agg #[.int .u64 (dgl (u) 0 : Nat), .int .u64 (dgl (u) 1 : Nat), .int .u64 (dgl (u) 2 : Nat), .int .u64 (dgl (u) 3 : Nat), .int .u64 (dgl (u) 4 : Nat), .int .u64 (dgl (u) 5 : Nat), .int .u64 (dgl (u) 6 : Nat), .int .u64 (dgl (u) 7 : Nat)], .agg #[.int .u64 (dgl (v) 0 : Nat), .int .u64 (dgl (v) 1 : Nat), .int .u64 (dgl (v) 2 : Nat), .int .u64 (dgl (v) 3 : Nat), .int .u64 (dgl (v) 4 : Nat), .int .u64 (dgl (v) 5 : Nat), .int .u64 (dgl (v) 6 : Nat), .int .u64 (dgl (v) 7 : Nat)]] w fun e w' => e = .returned (.int .i64 r) ∧ Below w.heap.size w w')) (w : World) :
    Calls Tryd.prog 86 #[.agg #[.bool (n1), .int .i64 (ea), .int .u64 (dgl (a) 0 : Nat), .int .u64 (dgl (a) 1 : Nat), .int .u64 (dgl (a) 2 : Nat), .int .u64 (dgl (a) 3 : Nat), .int .u64 (dgl (a) 4 : Nat), .int .u64 (dgl (a) 5 : Nat), .int .u64 (dgl (a) 6 : Nat), .int .u64 (dgl (a) 7 : Nat)], .agg #[.bool (n2), .int .i64 (eb), .int .u64 (dgl (b) 0 : Nat), .int .u64 (dgl (b) 1 : Nat), .int .u64 (dgl (b) 2 : Nat), .int .u64 (dgl (b) 3 : Nat), .int .u64 (dgl (b) 4 : Nat), .int .u64 (dgl (b) 5 : Nat), .int .u64 (dgl (b) 6 : Nat), .int .u64 (dgl (b) 7 : Nat)]] w fun e w' => e = .returned (.int .i64 r) ∧ Below w.heap.size w w' := by
  have HS := hide (grSt_start n1 n2 ea eb a b w)
  go_enter Tryd.func86, Tryd.ntmps86
  go_upto_region 1 with fail
  refine wp_gen (fun W => GrSt n1 n2 ea eb a b w W) HS.out ?_
  clear HS
  rintro W1 g1
  have HS := hide g1
  clear g1
  have ln := HS.out.a.n
  have le := HS.out.a.e
  have l0 := HS.out.a.x0
  have l1 := HS.out.a.x1
  have l2 := HS.out.a.x2
  have l3 := HS.out.a.x3
  have l4 := HS.out.a.x4
  have l5 := HS.out.a.x5
  have l6 := HS.out.a.x6
  have l7 := HS.out.a.x7
  go_wp2_with fail
  refine (HT1.out _).mono ?_
  rintro e w1 ⟨rfl, hb1⟩
  replace HS := hide (HS.out.below hb1)
  clear hb1 ln le l0 l1 l2 l3 l4 l5 l6 l7
  have ln := HS.out.b.n
  have le := HS.out.b.e
  have l0 := HS.out.b.x0
  have l1 := HS.out.b.x1
  have l2 := HS.out.b.x2
  have l3 := HS.out.b.x3
  have l4 := HS.out.b.x4
  have l5 := HS.out.b.x5
  have l6 := HS.out.b.x6
  have l7 := HS.out.b.x7
  go_wp2_with fail
  refine (HT2.out _).mono ?_
  rintro e w2 ⟨rfl, hb2⟩
  replace HS := hide (HS.out.below hb2)
  clear hb2 ln le l0 l1 l2 l3 l4 l5 l6 l7
  have hne := HNE.out
  go_upto_region 5 with fail
  refine wp_gen (fun W => GrSt n1 n2 ea eb a b w W) HS.out ?_
  clear HS hne
  rintro W5 h1
  refine wp_region_grow 16 [(25, .val (.pointer (some ⟨w.heap.size, 2, none⟩))), (26, .val (.agg #[.int .u64 (dgl (a) 0 : Nat), .int .u64 (dgl (a) 1 : Nat), .int .u64 (dgl (a) 2 : Nat), .int .u64 (dgl (a) 3 : Nat), .int .u64 (dgl (a) 4 : Nat), .int .u64 (dgl (a) 5 : Nat), .int .u64 (dgl (a) 6 : Nat), .int .u64 (dgl (a) 7 : Nat)])), (27, .val (.pointer (some ⟨w.heap.size, 2, none⟩))), (28, .val (.agg #[.int .u64 (dgl (a) 0 : Nat), .int .u64 (dgl (a) 1 : Nat), .int .u64 (dgl (a) 2 : Nat), .int .u64 (dgl (a) 3 : Nat), .int .u64 (dgl (a) 4 : Nat), .int .u64 (dgl (a) 5 : Nat), .int .u64 (dgl (a) 6 : Nat), .int .u64 (dgl (a) 7 : Nat)])), (29, .val (.int .i64 (la : Nat))), (30, .val (.int .i64 (512 - (la : Int)))), (31, .val (.agg #[.int .u64 (dgl (u) 0 : Nat), .int .u64 (dgl (u) 1 : Nat), .int .u64 (dgl (u) 2 : Nat), .int .u64 (dgl (u) 3 : Nat), .int .u64 (dgl (u) 4 : Nat), .int .u64 (dgl (u) 5 : Nat), .int .u64 (dgl (u) 6 : Nat), .int .u64 (dgl (u) 7 : Nat)])), (32, .val (.pointer (some ⟨w.heap.size + 1, 2, none⟩))), (33, .val (.agg #[.int .u64 (dgl (b) 0 : Nat), .int .u64 (dgl (b) 1 : Nat), .int .u64 (dgl (b) 2 : Nat), .int .u64 (dgl (b) 3 : Nat), .int .u64 (dgl (b) 4 : Nat), .int .u64 (dgl (b) 5 : Nat), .int .u64 (dgl (b) 6 : Nat), .int .u64 (dgl (b) 7 : Nat)])), (34, .val (.pointer (some ⟨w.heap.size + 1, 2, none⟩))), (35, .val (.agg #[.int .u64 (dgl (b) 0 : Nat), .int .u64 (dgl (b) 1 : Nat), .int .u64 (dgl (b) 2 : Nat), .int .u64 (dgl (b) 3 : Nat), .int .u64 (dgl (b) 4 : Nat), .int .u64 (dgl (b) 5 : Nat), .int .u64 (dgl (b) 6 : Nat), .int .u64 (dgl (b) 7 : Nat)])), (36, .val (.int .i64 (lb : Nat))), (37, .val (.int .i64 (512 - (lb : Int)))), (38, .val (.agg #[.int .u64 (dgl (v) 0 : Nat), .int .u64 (dgl (v) 1 : Nat), .int .u64 (dgl (v) 2 : Nat), .int .u64 (dgl (v) 3 : Nat), .int .u64 (dgl (v) 4 : Nat), .int .u64 (dgl (v) 5 : Nat), .int .u64 (dgl (v) 6 : Nat), .int .u64 (dgl (v) 7 : Nat)])), (39, .val (.int .i64 r)), (4, .val (.int .i64 r))]
    (fun W => GrSt n1 n2 ea eb a b w W) mixedOk (by kernel_rfl) (by kernel_rfl) (h1.below (Below.refl _ _).drew) (fun W W' h hb => h.below hb) ?_ ?_
  · refine gSt (gStep_run rfl ?_) ?_
    · intro ρ W hC hc hf hL
      have e2 : ρ (.tmp 2) = .pointer (some ⟨w.heap.size, 0, none⟩) := hL 2 (by decide +kernel)
      simp [go_sem, hc, hf, e2]
      exact ⟨Below.refl _ _, rfl⟩
    refine gSt (gStep_run rfl ?_) ?_
    · intro ρ W hC hc hf hL
      have e25 : ρ (.tmp 25) = .pointer (some ⟨w.heap.size, 2, none⟩) := hL 25 (by decide +kernel)
      have a0 := hC.a.x0
      have a1 := hC.a.x1
      have a2 := hC.a.x2
      have a3 := hC.a.x3
      have a4 := hC.a.x4
      have a5 := hC.a.x5
      have a6 := hC.a.x6
      have a7 := hC.a.x7
      simp [go_sem, hc, hf, e25, a0, a1, a2, a3, a4, a5, a6, a7]
      exact ⟨Below.refl _ _, rfl⟩
    refine gSt (gStep_run rfl ?_) ?_
    · intro ρ W hC hc hf hL
      have e2 : ρ (.tmp 2) = .pointer (some ⟨w.heap.size, 0, none⟩) := hL 2 (by decide +kernel)
      simp [go_sem, hc, hf, e2]
      exact ⟨Below.refl _ _, rfl⟩
    refine gSt (gStep_run rfl ?_) ?_
    · intro ρ W hC hc hf hL
      have e27 : ρ (.tmp 27) = .pointer (some ⟨w.heap.size, 2, none⟩) := hL 27 (by decide +kernel)
      have a0 := hC.a.x0
      have a1 := hC.a.x1
      have a2 := hC.a.x2
      have a3 := hC.a.x3
      have a4 := hC.a.x4
      have a5 := hC.a.x5
      have a6 := hC.a.x6
      have a7 := hC.a.x7
      simp [go_sem, hc, hf, e27, a0, a1, a2, a3, a4, a5, a6, a7]
      exact ⟨Below.refl _ _, rfl⟩
    refine gSt (gStep_run rfl ?_) ?_
    · intro ρ W hC hc hf hL
      have e28 : ρ (.tmp 28) = .agg #[.int .u64 (dgl (a) 0 : Nat), .int .u64 (dgl (a) 1 : Nat), .int .u64 (dgl (a) 2 : Nat), .int .u64 (dgl (a) 3 : Nat), .int .u64 (dgl (a) 4 : Nat), .int .u64 (dgl (a) 5 : Nat), .int .u64 (dgl (a) 6 : Nat), .int .u64 (dgl (a) 7 : Nat)] := hL 28 (by decide +kernel)
      simp [go_sem, hc, hf, e28]
      refine (HLA.out W).mono ?_
      rintro e w' ⟨rfl, hb⟩
      exact ⟨_, rfl, by first | exact hb | (subst hb; exact Below.refl _ _), rfl⟩
    refine gSt (gStep_run rfl ?_) ?_
    · intro ρ W hC hc hf hL
      have e29 : ρ (.tmp 29) = .int .i64 (la : Nat) := hL 29 (by decide +kernel)
      have l0 : IntKind.i64.wrap (512 - (la : Int)) = 512 - (la : Int) := by rw [IntKind.wrap_i64]; omega
      simp [go_sem, hc, hf, e29, l0]
      exact ⟨Below.refl _ _, rfl⟩
    refine gSt (gStep_run rfl ?_) ?_
    · intro ρ W hC hc hf hL
      have e26 : ρ (.tmp 26) = .agg #[.int .u64 (dgl (a) 0 : Nat), .int .u64 (dgl (a) 1 : Nat), .int .u64 (dgl (a) 2 : Nat), .int .u64 (dgl (a) 3 : Nat), .int .u64 (dgl (a) 4 : Nat), .int .u64 (dgl (a) 5 : Nat), .int .u64 (dgl (a) 6 : Nat), .int .u64 (dgl (a) 7 : Nat)] := hL 26 (by decide +kernel)
      have e30 : ρ (.tmp 30) = .int .i64 (512 - (la : Int)) := hL 30 (by decide +kernel)
      simp [go_sem, hc, hf, e26, e30]
      refine (HSA.out W).mono ?_
      rintro e w' ⟨rfl, hb⟩
      exact ⟨_, rfl, by first | exact hb | (subst hb; exact Below.refl _ _), rfl⟩
    refine gSt (gStep_run rfl ?_) ?_
    · intro ρ W hC hc hf hL
      have e3 : ρ (.tmp 3) = .pointer (some ⟨w.heap.size + 1, 0, none⟩) := hL 3 (by decide +kernel)
      simp [go_sem, hc, hf, e3]
      exact ⟨Below.refl _ _, rfl⟩
    refine gSt (gStep_run rfl ?_) ?_
    · intro ρ W hC hc hf hL
      have e32 : ρ (.tmp 32) = .pointer (some ⟨w.heap.size + 1, 2, none⟩) := hL 32 (by decide +kernel)
      have b0 := hC.b.x0
      have b1 := hC.b.x1
      have b2 := hC.b.x2
      have b3 := hC.b.x3
      have b4 := hC.b.x4
      have b5 := hC.b.x5
      have b6 := hC.b.x6
      have b7 := hC.b.x7
      simp [go_sem, hc, hf, e32, b0, b1, b2, b3, b4, b5, b6, b7]
      exact ⟨Below.refl _ _, rfl⟩
    refine gSt (gStep_run rfl ?_) ?_
    · intro ρ W hC hc hf hL
      have e3 : ρ (.tmp 3) = .pointer (some ⟨w.heap.size + 1, 0, none⟩) := hL 3 (by decide +kernel)
      simp [go_sem, hc, hf, e3]
      exact ⟨Below.refl _ _, rfl⟩
    refine gSt (gStep_run rfl ?_) ?_
    · intro ρ W hC hc hf hL
      have e34 : ρ (.tmp 34) = .pointer (some ⟨w.heap.size + 1, 2, none⟩) := hL 34 (by decide +kernel)
      have b0 := hC.b.x0
      have b1 := hC.b.x1
      have b2 := hC.b.x2
      have b3 := hC.b.x3
      have b4 := hC.b.x4
      have b5 := hC.b.x5
      have b6 := hC.b.x6
      have b7 := hC.b.x7
      simp [go_sem, hc, hf, e34, b0, b1, b2, b3, b4, b5, b6, b7]
      exact ⟨Below.refl _ _, rfl⟩
    refine gSt (gStep_run rfl ?_) ?_
    · intro ρ W hC hc hf hL
      have e35 : ρ (.tmp 35) = .agg #[.int .u64 (dgl (b) 0 : Nat), .int .u64 (dgl (b) 1 : Nat), .int .u64 (dgl (b) 2 : Nat), .int .u64 (dgl (b) 3 : Nat), .int .u64 (dgl (b) 4 : Nat), .int .u64 (dgl (b) 5 : Nat), .int .u64 (dgl (b) 6 : Nat), .int .u64 (dgl (b) 7 : Nat)] := hL 35 (by decide +kernel)
      simp [go_sem, hc, hf, e35]
      refine (HLB.out W).mono ?_
      rintro e w' ⟨rfl, hb⟩
      exact ⟨_, rfl, by first | exact hb | (subst hb; exact Below.refl _ _), rfl⟩
    refine gSt (gStep_run rfl ?_) ?_
    · intro ρ W hC hc hf hL
      have e36 : ρ (.tmp 36) = .int .i64 (lb : Nat) := hL 36 (by decide +kernel)
      have l0 : IntKind.i64.wrap (512 - (lb : Int)) = 512 - (lb : Int) := by rw [IntKind.wrap_i64]; omega
      simp [go_sem, hc, hf, e36, l0]
      exact ⟨Below.refl _ _, rfl⟩
    refine gSt (gStep_run rfl ?_) ?_
    · intro ρ W hC hc hf hL
      have e33 : ρ (.tmp 33) = .agg #[.int .u64 (dgl (b) 0 : Nat), .int .u64 (dgl (b) 1 : Nat), .int .u64 (dgl (b) 2 : Nat), .int .u64 (dgl (b) 3 : Nat), .int .u64 (dgl (b) 4 : Nat), .int .u64 (dgl (b) 5 : Nat), .int .u64 (dgl (b) 6 : Nat), .int .u64 (dgl (b) 7 : Nat)] := hL 33 (by decide +kernel)
      have e37 : ρ (.tmp 37) = .int .i64 (512 - (lb : Int)) := hL 37 (by decide +kernel)
      simp [go_sem, hc, hf, e33, e37]
      refine (HSB.out W).mono ?_
      rintro e w' ⟨rfl, hb⟩
      exact ⟨_, rfl, by first | exact hb | (subst hb; exact Below.refl _ _), rfl⟩
    refine gSt (gStep_run rfl ?_) ?_
    · intro ρ W hC hc hf hL
      have e31 : ρ (.tmp 31) = .agg #[.int .u64 (dgl (u) 0 : Nat), .int .u64 (dgl (u) 1 : Nat), .int .u64 (dgl (u) 2 : Nat), .int .u64 (dgl (u) 3 : Nat), .int .u64 (dgl (u) 4 : Nat), .int .u64 (dgl (u) 5 : Nat), .int .u64 (dgl (u) 6 : Nat), .int .u64 (dgl (u) 7 : Nat)] := hL 31 (by decide +kernel)
      have e38 : ρ (.tmp 38) = .agg #[.int .u64 (dgl (v) 0 : Nat), .int .u64 (dgl (v) 1 : Nat), .int .u64 (dgl (v) 2 : Nat), .int .u64 (dgl (v) 3 : Nat), .int .u64 (dgl (v) 4 : Nat), .int .u64 (dgl (v) 5 : Nat), .int .u64 (dgl (v) 6 : Nat), .int .u64 (dgl (v) 7 : Nat)] := hL 38 (by decide +kernel)
      simp [go_sem, hc, hf, e31, e38]
      refine (HCM.out W).mono ?_
      rintro e w' ⟨rfl, hb⟩
      exact ⟨_, rfl, by first | exact hb | (subst hb; exact Below.refl _ _), rfl⟩
    refine gSt (gStep_run rfl (gRun_move 39 4 (.inr rfl) rfl (by decide +kernel) (fun v w h => h))) ?_
    exact gSt0
  · intro W hC
    refine gFi 25 rfl ?_
    rintro _ rfl
    refine gFi 26 rfl ?_
    rintro _ rfl
    refine gFi 27 rfl ?_
    rintro _ rfl
    refine gFi 28 rfl ?_
    rintro _ rfl
    refine gFi 29 rfl ?_
    rintro _ rfl
    refine gFi 30 rfl ?_
    rintro _ rfl
    refine gFi 31 rfl ?_
    rintro _ rfl
    refine gFi 32 rfl ?_
    rintro _ rfl
    refine gFi 33 rfl ?_
    rintro _ rfl
    refine gFi 34 rfl ?_
    rintro _ rfl
    refine gFi 35 rfl ?_
    rintro _ rfl
    refine gFi 36 rfl ?_
    rintro _ rfl
    refine gFi 37 rfl ?_
    rintro _ rfl
    refine gFi 38 rfl ?_
    rintro _ rfl
    refine gFi 39 rfl ?_
    rintro _ rfl
    refine gFi 4 rfl ?_
    rintro _ rfl
    refine gFi0 ?_
    simp only [List.drop_succ_cons, List.drop_zero, Act.put, List.setIfInBounds_toArray, List.set_cons_succ, List.set_cons_zero]
    have HB := hide hC.bel
    clear hC h1
    go_wp2
    go_ret
    exact ⟨rfl, HB.out⟩

set_option maxHeartbeats 2000000 in
theorem ucmp_D (n1 n2 : Bool) (ea eb : Int) (a b : Nat) (x y g r : Int)
    (HR1 : Hid (∀ w, Calls Tryd.prog 14 #[.agg #[.bool (n1), .int .i64 (ea), .int .u64 (dgl (a) 0 : Nat), .int .u64 (dgl (a) 1 : Nat), .int .u64 (dgl (a) 2 : Nat), .int .u64 (dgl (a) 3 : Nat), .int .u64 (dgl (a) 4 : Nat), .int .u64 (dgl (a) 5 : Nat), .int .u64 (dgl (a) 6 : Nat), .int .u64 (dgl (a) 7 : Nat)]] w fun e w' => e = .returned (.bool true) ∧ Below w.heap.size w w'))
    (HR2 : Hid (∀ w, Calls Tryd.prog 14 #[.agg #[.bool (n2), .int .i64 (eb), .int .u64 (dgl (b) 0 : Nat), .int .u64 (dgl (b) 1 : Nat), .int .u64 (dgl (b) 2 : Nat), .int .u64 (dgl (b) 3 : Nat), .int .u64 (dgl (b) 4 : Nat), .int .u64 (dgl (b) 5 : Nat), .int .u64 (dgl (b) 6 : Nat), .int .u64 (dgl (b) 7 : Nat)]] w fun e w' => e = .returned (.bool true) ∧ Below w.heap.size w w'))
    (HS1 : Hid (∀ w, Calls Tryd.prog 84 #[.agg #[.bool (n1), .int .i64 (ea), .int .u64 (dgl (a) 0 : Nat), .int .u64 (dgl (a) 1 : Nat), .int .u64 (dgl (a) 2 : Nat), .int .u64 (dgl (a) 3 : Nat), .int .u64 (dgl (a) 4 : Nat), .int .u64 (dgl (a) 5 : Nat), .int .u64 (dgl (a) 6 : Nat), .int .u64 (dgl (a) 7 : Nat)]] w fun e w' => e = .returned (.int .i64 x) ∧ Below w.heap.size w w'))
    (HS2 : Hid (∀ w, Calls Tryd.prog 84 #[.agg #[.bool (n2), .int .i64 (eb), .int .u64 (dgl (b) 0 : Nat), .int .u64 (dgl (b) 1 : Nat), .int .u64 (dgl (b) 2 : Nat), .int .u64 (dgl (b) 3 : Nat), .int .u64 (dgl (b) 4 : Nat), .int .u64 (dgl (b) 5 : Nat), .int .u64 (dgl (b) 6 : Nat), .int .u64 (dgl (b) 7 : Nat)]] w fun e w' => e = .returned (.int .i64 y) ∧ Below w.heap.size w w'))
    (HNE : Hid ((x == y) = false)) (w : World) :
    Calls Tryd.prog 35 #[.agg #[.bool (n1), .int .i64 (ea), .int .u64 (dgl (a) 0 : Nat), .int .u64 (dgl (a) 1 : Nat), .int .u64 (dgl (a) 2 : Nat), .int .u64 (dgl (a) 3 : Nat), .int .u64 (dgl (a) 4 : Nat), .int .u64 (dgl (a) 5 : Nat), .int .u64 (dgl (a) 6 : Nat), .int .u64 (dgl (a) 7 : Nat)], .agg #[.bool (n2), .int .i64 (eb), .int .u64 (dgl (b) 0 : Nat), .int .u64 (dgl (b) 1 : Nat), .int .u64 (dgl (b) 2 : Nat), .int .u64 (dgl (b) 3 : Nat), .int .u64 (dgl (b) 4 : Nat), .int .u64 (dgl (b) 5 : Nat), .int .u64 (dgl (b) 6 : Nat), .int .u64 (dgl (b) 7 : Nat)]] w fun e w' => e = .returned (.int .i64 (cmpI x y)) ∧ Below w.heap.size w w' := by
  have HS := hide (grSt_start n1 n2 ea eb a b w)
  go_enter Tryd.func35, Tryd.ntmps35
  go_upto_region 1 with fail
  refine wp_gen (fun W => GrSt n1 n2 ea eb a b w W) HS.out ?_
  clear HS
  rintro W1 g1
  have HS := hide g1
  clear g1
  have ln := HS.out.a.n
  have le := HS.out.a.e
  have l0 := HS.out.a.x0
  have l1 := HS.out.a.x1
  have l2 := HS.out.a.x2
  have l3 := HS.out.a.x3
  have l4 := HS.out.a.x4
  have l5 := HS.out.a.x5
  have l6 := HS.out.a.x6
  have l7 := HS.out.a.x7
  go_wp2_with fail
  refine (HR1.out _).mono ?_
  rintro e w1 ⟨rfl, hb1⟩
  replace HS := hide (HS.out.below hb1)
  clear hb1 ln le l0 l1 l2 l3 l4 l5 l6 l7
  have ln := HS.out.b.n
  have le := HS.out.b.e
  have l0 := HS.out.b.x0
  have l1 := HS.out.b.x1
  have l2 := HS.out.b.x2
  have l3 := HS.out.b.x3
  have l4 := HS.out.b.x4
  have l5 := HS.out.b.x5
  have l6 := HS.out.b.x6
  have l7 := HS.out.b.x7
  go_wp2_with fail
  refine (HR2.out _).mono ?_
  rintro e w2 ⟨rfl, hb2⟩
  replace HS := hide (HS.out.below hb2)
  clear hb2 ln le l0 l1 l2 l3 l4 l5 l6 l7
  go_upto_region 3 with fail
  refine wp_gen (fun W => GrSt n1 n2 ea eb a b w W) HS.out ?_
  clear HS
  rintro W3 h1
  refine wp_region_grow 6 [(15, .val (.agg #[.bool (n1), .int .i64 (ea), .int .u64 (dgl (a) 0 : Nat), .int .u64 (dgl (a) 1 : Nat), .int .u64 (dgl (a) 2 : Nat), .int .u64 (dgl (a) 3 : Nat), .int .u64 (dgl (a) 4 : Nat), .int .u64 (dgl (a) 5 : Nat), .int .u64 (dgl (a) 6 : Nat), .int .u64 (dgl (a) 7 : Nat)])), (16, .val (.int .i64 x)), (17, .val (.agg #[.bool (n2), .int .i64 (eb), .int .u64 (dgl (b) 0 : Nat), .int .u64 (dgl (b) 1 : Nat), .int .u64 (dgl (b) 2 : Nat), .int .u64 (dgl (b) 3 : Nat), .int .u64 (dgl (b) 4 : Nat), .int .u64 (dgl (b) 5 : Nat), .int .u64 (dgl (b) 6 : Nat), .int .u64 (dgl (b) 7 : Nat)])), (18, .val (.int .i64 y)), (19, .val (.bool true)), (14, .val (.bool true))]
    (fun W => GrSt n1 n2 ea eb a b w W) mixedOk (by kernel_rfl) (by kernel_rfl) (h1.below (Below.refl _ _).drew) (fun W W' h hb => h.below hb) ?_ ?_
  · refine gSt (gStep_run rfl ?_) ?_
    · intro ρ W hC hc hf hL
      have e2 : ρ (.tmp 2) = .pointer (some ⟨w.heap.size, 0, none⟩) := hL 2 (by decide +kernel)
      have an := hC.a.n
      have ae := hC.a.e
      have a0 := hC.a.x0
      have a1 := hC.a.x1
      have a2 := hC.a.x2
      have a3 := hC.a.x3
      have a4 := hC.a.x4
      have a5 := hC.a.x5
      have a6 := hC.a.x6
      have a7 := hC.a.x7
      simp [go_sem, hc, hf, e2, an, ae, a0, a1, a2, a3, a4, a5, a6, a7]
      exact ⟨Below.refl _ _, rfl⟩
    refine gSt (gStep_run rfl ?_) ?_
    · intro ρ W hC hc hf hL
      have e15 : ρ (.tmp 15) = .agg #[.bool (n1), .int .i64 (ea), .int .u64 (dgl (a) 0 : Nat), .int .u64 (dgl (a) 1 : Nat), .int .u64 (dgl (a) 2 : Nat), .int .u64 (dgl (a) 3 : Nat), .int .u64 (dgl (a) 4 : Nat), .int .u64 (dgl (a) 5 : Nat), .int .u64 (dgl (a) 6 : Nat), .int .u64 (dgl (a) 7 : Nat)] := hL 15 (by decide +kernel)
      simp [go_sem, hc, hf, e15]
      refine (HS1.out W).mono ?_
      rintro e w' ⟨rfl, hb⟩
      exact ⟨_, rfl, by first | exact hb | (subst hb; exact Below.refl _ _), rfl⟩
    refine gSt (gStep_run rfl ?_) ?_
    · intro ρ W hC hc hf hL
      have e3 : ρ (.tmp 3) = .pointer (some ⟨w.heap.size + 1, 0, none⟩) := hL 3 (by decide +kernel)
      have bn := hC.b.n
      have be := hC.b.e
      have b0 := hC.b.x0
      have b1 := hC.b.x1
      have b2 := hC.b.x2
      have b3 := hC.b.x3
      have b4 := hC.b.x4
      have b5 := hC.b.x5
      have b6 := hC.b.x6
      have b7 := hC.b.x7
      simp [go_sem, hc, hf, e3, bn, be, b0, b1, b2, b3, b4, b5, b6, b7]
      exact ⟨Below.refl _ _, rfl⟩
    refine gSt (gStep_run rfl ?_) ?_
    · intro ρ W hC hc hf hL
      have e17 : ρ (.tmp 17) = .agg #[.bool (n2), .int .i64 (eb), .int .u64 (dgl (b) 0 : Nat), .int .u64 (dgl (b) 1 : Nat), .int .u64 (dgl (b) 2 : Nat), .int .u64 (dgl (b) 3 : Nat), .int .u64 (dgl (b) 4 : Nat), .int .u64 (dgl (b) 5 : Nat), .int .u64 (dgl (b) 6 : Nat), .int .u64 (dgl (b) 7 : Nat)] := hL 17 (by decide +kernel)
      simp [go_sem, hc, hf, e17]
      refine (HS2.out W).mono ?_
      rintro e w' ⟨rfl, hb⟩
      exact ⟨_, rfl, by first | exact hb | (subst hb; exact Below.refl _ _), rfl⟩
    refine gSt (gStep_run rfl ?_) ?_
    · intro ρ W hC hc hf hL
      have e16 : ρ (.tmp 16) = .int .i64 x := hL 16 (by decide +kernel)
      have e18 : ρ (.tmp 18) = .int .i64 y := hL 18 (by decide +kernel)
      have l0 := HNE.out
      have l1 : (x != y) = true := by show (!(x == y)) = _; rw [l0]; rfl
      simp [go_sem, hc, hf, e16, e18, l0, l1, -beq_eq_false_iff_ne, -beq_iff_eq, -bne_iff_ne]
      exact ⟨Below.refl _ _, rfl⟩
    refine gSt (gStep_run rfl (gRun_move 19 14 (.inr rfl) rfl (by decide +kernel) (fun v w h => h))) ?_
    exact gSt0
  · intro W hC
    refine gFi 15 rfl ?_
    rintro _ rfl
    refine gFi 16 rfl ?_
    rintro _ rfl
    refine gFi 17 rfl ?_
    rintro _ rfl
    refine gFi 18 rfl ?_
    rintro _ rfl
    refine gFi 19 rfl ?_
    rintro _ rfl
    refine gFi 14 rfl ?_
    rintro _ rfl
    refine gFi0 ?_
    simp only [List.drop_succ_cons, List.drop_zero, Act.put, List.setIfInBounds_toArray, List.set_cons_succ, List.set_cons_zero]
    have HS := hide hC
    clear hC h1
    go_upto_region 4 with fail
    refine wp_gen (fun W => GrSt n1 n2 ea eb a b w W) HS.out ?_
    clear HS
    rintro W4 h1
    refine wp_region_grow 6 [(20, .val (.agg #[.bool (n1), .int .i64 (ea), .int .u64 (dgl (a) 0 : Nat), .int .u64 (dgl (a) 1 : Nat), .int .u64 (dgl (a) 2 : Nat), .int .u64 (dgl (a) 3 : Nat), .int .u64 (dgl (a) 4 : Nat), .int .u64 (dgl (a) 5 : Nat), .int .u64 (dgl (a) 6 : Nat), .int .u64 (dgl (a) 7 : Nat)])), (21, .val (.int .i64 x)), (22, .val (.agg #[.bool (n2), .int .i64 (eb), .int .u64 (dgl (b) 0 : Nat), .int .u64 (dgl (b) 1 : Nat), .int .u64 (dgl (b) 2 : Nat), .int .u64 (dgl (b) 3 : Nat), .int .u64 (dgl (b) 4 : Nat), .int .u64 (dgl (b) 5 : Nat), .int .u64 (dgl (b) 6 : Nat), .int .u64 (dgl (b) 7 : Nat)])), (23, .val (.int .i64 y)), (24, .val (.int .i64 (cmpI x y))), (4, .val (.int .i64 (cmpI x y)))]
      (fun W => GrSt n1 n2 ea eb a b w W) mixedOk (by kernel_rfl) (by kernel_rfl) (h1.below (Below.refl _ _).drew) (fun W W' h hb => h.below hb) ?_ ?_
    · refine gSt (gStep_run rfl ?_) ?_
      · intro ρ W hC hc hf hL
        have e2 : ρ (.tmp 2) = .pointer (some ⟨w.heap.size, 0, none⟩) := hL 2 (by decide +kernel)
        have an := hC.a.n
        have ae := hC.a.e
        have a0 := hC.a.x0
        have a1 := hC.a.x1
        have a2 := hC.a.x2
        have a3 := hC.a.x3
        have a4 := hC.a.x4
        have a5 := hC.a.x5
        have a6 := hC.a.x6
        have a7 := hC.a.x7
        simp [go_sem, hc, hf, e2, an, ae, a0, a1, a2, a3, a4, a5, a6, a7]
        exact ⟨Below.refl _ _, rfl⟩
      refine gSt (gStep_run rfl ?_) ?_
      · intro ρ W hC hc hf hL
        have e20 : ρ (.tmp 20) = .agg #[.bool (n1), .int .i64 (ea), .int .u64 (dgl (a) 0 : Nat), .int .u64 (dgl (a) 1 : Nat), .int .u64 (dgl (a) 2 : Nat), .int .u64 (dgl (a) 3 : Nat), .int .u64 (dgl (a) 4 : Nat), .int .u64 (dgl (a) 5 : Nat), .int .u64 (dgl (a) 6 : Nat), .int .u64 (dgl (a) 7 : Nat)] := hL 20 (by decide +kernel)
        simp [go_sem, hc, hf, e20]
        refine (HS1.out W).mono ?_
        rintro e w' ⟨rfl, hb⟩
        exact ⟨_, rfl, by first | exact hb | (subst hb; exact Below.refl _ _), rfl⟩
      refine gSt (gStep_run rfl ?_) ?_
      · intro ρ W hC hc hf hL
        have e3 : ρ (.tmp 3) = .pointer (some ⟨w.heap.size + 1, 0, none⟩) := hL 3 (by decide +kernel)
        have bn := hC.b.n
        have be := hC.b.e
        have b0 := hC.b.x0
        have b1 := hC.b.x1
        have b2 := hC.b.x2
        have b3 := hC.b.x3
        have b4 := hC.b.x4
        have b5 := hC.b.x5
        have b6 := hC.b.x6
        have b7 := hC.b.x7
        simp [go_sem, hc, hf, e3, bn, be, b0, b1, b2, b3, b4, b5, b6, b7]
        exact ⟨Below.refl _ _, rfl⟩
      refine gSt (gStep_run rfl ?_) ?_
      · intro ρ W hC hc hf hL
        have e22 : ρ (.tmp 22) = .agg #[.bool (n2), .int .i64 (eb), .int .u64 (dgl (b) 0 : Nat), .int .u64 (dgl (b) 1 : Nat), .int .u64 (dgl (b) 2 : Nat), .int .u64 (dgl (b) 3 : Nat), .int .u64 (dgl (b) 4 : Nat), .int .u64 (dgl (b) 5 : Nat), .int .u64 (dgl (b) 6 : Nat), .int .u64 (dgl (b) 7 : Nat)] := hL 22 (by decide +kernel)
        simp [go_sem, hc, hf, e22]
        refine (HS2.out W).mono ?_
        rintro e w' ⟨rfl, hb⟩
        exact ⟨_, rfl, by first | exact hb | (subst hb; exact Below.refl _ _), rfl⟩
      refine gSt (gStep_run rfl ?_) ?_
      · intro ρ W hC hc hf hL
        have e21 : ρ (.tmp 21) = .int .i64 x := hL 21 (by decide +kernel)
        have e23 : ρ (.tmp 23) = .int .i64 y := hL 23 (by decide +kernel)
        simp [go_sem, hc, hf, e21, e23]
        refine (compareI_any x y W).mono ?_
        rintro e w' ⟨rfl, hb⟩
        exact ⟨_, rfl, by first | exact hb | (subst hb; exact Below.refl _ _), rfl⟩
      refine gSt (gStep_run rfl (gRun_move 24 4 (.inr rfl) rfl (by decide +kernel) (fun v w h => h))) ?_
      exact gSt0
    · intro W hC
      refine gFi 20 rfl ?_
      rintro _ rfl
      refine gFi 21 rfl ?_
      rintro _ rfl
      refine gFi 22 rfl ?_
      rintro _ rfl
      refine gFi 23 rfl ?_
      rintro _ rfl
      refine gFi 24 rfl ?_
      rintro _ rfl
      refine gFi 4 rfl ?_
      rintro _ rfl
      refine gFi0 ?_
      simp only [List.drop_succ_cons, List.drop_zero, Act.put, List.setIfInBounds_toArray, List.set_cons_succ, List.set_cons_zero]
      have HB := hide hC.bel
      clear hC h1
      go_wp2
      go_ret
      exact ⟨rfl, HB.out⟩

set_option maxHeartbeats 2000000 in
theorem ucmp_S (n1 n2 : Bool) (ea eb : Int) (a b : Nat) (x y g r : Int)
    (HR1 : Hid (∀ w, Calls Tryd.prog 14 #[.agg #[.bool (n1), .int .i64 (ea), .int .u64 (dgl (a) 0 : Nat), .int .u64 (dgl (a) 1 : Nat), .int .u64 (dgl (a) 2 : Nat), .int .u64 (dgl (a) 3 : Nat), .int .u64 (dgl (a) 4 : Nat), .int .u64 (dgl (a) 5 : Nat), .int .u64 (dgl (a) 6 : Nat), .int .u64 (dgl (a) 7 : Nat)]] w fun e w' => e = .returned (.bool true) ∧ Below w.heap.size w w'))
    (HR2 : Hid (∀ w, Calls Tryd.prog 14 #[.agg #[.bool (n2), .int .i64 (eb), .int .u64 (dgl (b) 0 : Nat), .int .u64 (dgl (b) 1 : Nat), .int .u64 (dgl (b) 2 : Nat), .int .u64 (dgl (b) 3 : Nat), .int .u64 (dgl (b) 4 : Nat), .int .u64 (dgl (b) 5 : Nat), .int .u64 (dgl (b) 6 : Nat), .int .u64 (dgl (b) 7 : Nat)]] w fun e w' => e = .returned (.bool true) ∧ Below w.heap.size w w'))
    (HS1 : Hid (∀ w, Calls Tryd.prog 84 #[.agg #[.bool (n1), .int .i64 (ea), .int .u64 (dgl (a) 0 : Nat), .int .u64 (dgl (a) 1 : Nat), .int .u64 (dgl (a) 2 : Nat), .int .u64 (dgl (a) 3 : Nat), .int .u64 (dgl (a) 4 : Nat), .int .u64 (dgl (a) 5 : Nat), .int .u64 (dgl (a) 6 : Nat), .int .u64 (dgl (a) 7 : Nat)]] w fun e w' => e = .returned (.int .i64 x) ∧ Below w.heap.size w w'))
    (HS2 : Hid (∀ w, Calls Tryd.prog 84 #[.agg #[.bool (n2), .int .i64 (eb), .int .u64 (dgl (b) 0 : Nat), .int .u64 (dgl (b) 1 : Nat), .int .u64 (dgl (b) 2 : Nat), .int .u64 (dgl (b) 3 : Nat), .int .u64 (dgl (b) 4 : Nat), .int .u64 (dgl (b) 5 : Nat), .int .u64 (dgl (b) 6 : Nat), .int .u64 (dgl (b) 7 : Nat)]] w fun e w' => e = .returned (.int .i64 y) ∧ Below w.heap.size w w'))
    (HNE : Hid ((x == y) = true))
    (HGR : Hid (∀ w, Calls Tryd.prog 86 #[.agg #[.bool (n1), .int .i64 (ea), .int .u64 (dgl (a) 0 : Nat), .int .u64 (dgl (a) 1 : Nat), .int .u64 (dgl (a) 2 : Nat), .int .u64 (dgl (a) 3 : Nat), .int .u64 (dgl (a) 4 : Nat), .int .u64 (dgl (a) 5 : Nat), .int .u64 (dgl (a) 6 : Nat), .int .u64 (dgl (a) 7 : Nat)], .agg #[.bool (n2), .int .i64 (eb), .int .u64 (dgl (b) 0 : Nat), .int .u64 (dgl (b) 1 : Nat), .int .u64 (dgl (b) 2 : Nat), .int .u64 (dgl (b) 3 : Nat), .int .u64 (dgl (b) 4 : Nat), .int .u64 (dgl (b) 5 : Nat), .int .u64 (dgl (b) 6 : Nat), .int .u64 (dgl (b) 7 : Nat)]] w fun e w' => e = .returned (.int .i64 g) ∧ Below w.heap.size w w'))
    (HMU : Hid (IntKind.i64.wrap (x * g) = r)) (w : World) :
    Calls Tryd.prog 35 #[.agg #[.bool (n1), .int .i64 (ea), .int .u64 (dgl (a) 0 : Nat), .int .u64 (dgl (a) 1 : Nat), .int .u64 (dgl (a) 2 : Nat), .int .u64 (dgl (a) 3 : Nat), .int .u64 (dgl (a) 4 : Nat), .int .u64 (dgl (a) 5 : Nat), .int .u64 (dgl (a) 6 : Nat), .int .u64 (dgl (a) 7 : Nat)], .agg #[.bool (n2), .int .i64 (eb), .int .u64 (dgl (b) 0 : Nat), .int .u64 (dgl (b) 1 : Nat), .int .u64 (dgl (b) 2 : Nat), .int .u64 (dgl (b) 3 : Nat), .int .u64 (dgl (b) 4 : Nat), .int .u64 (dgl (b) 5 : Nat), .int .u64 (dgl (b) 6 : Nat), .int .u64 (dgl (b) 7 : Nat)]] w fun e w' => e = .returned (.int .i64 r) ∧ Below w.heap.size w w' := by
  have HS := hide (grSt_start n1 n2 ea eb a b w)
  go_enter Tryd.func35, Tryd.ntmps35
  go_upto_region 1 with fail
  refine wp_gen (fun W => GrSt n1 n2 ea eb a b w W) HS.out ?_
  clear HS
  rintro W1 g1
  have HS := hide g1
  clear g1
  have ln := HS.out.a.n
  have le := HS.out.a.e
  have l0 := HS.out.a.x0
  have l1 := HS.out.a.x1
  have l2 := HS.out.a.x2
  have l3 := HS.out.a.x3
  have l4 := HS.out.a.x4
  have l5 := HS.out.a.x5
  have l6 := HS.out.a.x6
  have l7 := HS.out.a.x7
  go_wp2_with fail
  refine (HR1.out _).mono ?_
  rintro e w1 ⟨rfl, hb1⟩
  replace HS := hide (HS.out.below hb1)
  clear hb1 ln le l0 l1 l2 l3 l4 l5 l6 l7
  have ln := HS.out.b.n
  have le := HS.out.b.e
  have l0 := HS.out.b.x0
  have l1 := HS.out.b.x1
  have l2 := HS.out.b.x2
  have l3 := HS.out.b.x3
  have l4 := HS.out.b.x4
  have l5 := HS.out.b.x5
  have l6 := HS.out.b.x6
  have l7 := HS.out.b.x7
  go_wp2_with fail
  refine (HR2.out _).mono ?_
  rintro e w2 ⟨rfl, hb2⟩
  replace HS := hide (HS.out.below hb2)
  clear hb2 ln le l0 l1 l2 l3 l4 l5 l6 l7
  go_upto_region 3 with fail
  refine wp_gen (fun W => GrSt n1 n2 ea eb a b w W) HS.out ?_
  clear HS
  rintro W3 h1
  refine wp_region_grow 6 [(15, .val (.agg #[.bool (n1), .int .i64 (ea), .int .u64 (dgl (a) 0 : Nat), .int .u64 (dgl (a) 1 : Nat), .int .u64 (dgl (a) 2 : Nat), .int .u64 (dgl (a) 3 : Nat), .int .u64 (dgl (a) 4 : Nat), .int .u64 (dgl (a) 5 : Nat), .int .u64 (dgl (a) 6 : Nat), .int .u64 (dgl (a) 7 : Nat)])), (16, .val (.int .i64 x)), (17, .val (.agg #[.bool (n2), .int .i64 (eb), .int .u64 (dgl (b) 0 : Nat), .int .u64 (dgl (b) 1 : Nat), .int .u64 (dgl (b) 2 : Nat), .int .u64 (dgl (b) 3 : Nat), .int .u64 (dgl (b) 4 : Nat), .int .u64 (dgl (b) 5 : Nat), .int .u64 (dgl (b) 6 : Nat), .int .u64 (dgl (b) 7 : Nat)])), (18, .val (.int .i64 y)), (19, .val (.bool false)), (14, .val (.bool false))]
    (fun W => GrSt n1 n2 ea eb a b w W) mixedOk (by kernel_rfl) (by kernel_rfl) (h1.below (Below.refl _ _).drew) (fun W W' h hb => h.below hb) ?_ ?_
  · refine gSt (gStep_run rfl ?_) ?_
    · intro ρ W hC hc hf hL
      have e2 : ρ (.tmp 2) = .pointer (some ⟨w.heap.size, 0, none⟩) := hL 2 (by decide +kernel)
      have an := hC.a.n
      have ae := hC.a.e
      have a0 := hC.a.x0
      have a1 := hC.a.x1
      have a2 := hC.a.x2
      have a3 := hC.a.x3
      have a4 := hC.a.x4
      have a5 := hC.a.x5
      have a6 := hC.a.x6
      have a7 := hC.a.x7
      simp [go_sem, hc, hf, e2, an, ae, a0, a1, a2, a3, a4, a5, a6, a7]
      exact ⟨Below.refl _ _, rfl⟩
    refine gSt (gStep_run rfl ?_) ?_
    · intro ρ W hC hc hf hL
      have e15 : ρ (.tmp 15) = .agg #[.bool (n1), .int .i64 (ea), .int .u64 (dgl (a) 0 : Nat), .int .u64 (dgl (a) 1 : Nat), .int .u64 (dgl (a) 2 : Nat), .int .u64 (dgl (a) 3 : Nat), .int .u64 (dgl (a) 4 : Nat), .int .u64 (dgl (a) 5 : Nat), .int .u64 (dgl (a) 6 : Nat), .int .u64 (dgl (a) 7 : Nat)] := hL 15 (by decide +kernel)
      simp [go_sem, hc, hf, e15]
      refine (HS1.out W).mono ?_
      rintro e w' ⟨rfl, hb⟩
      exact ⟨_, rfl, by first | exact hb | (subst hb; exact Below.refl _ _), rfl⟩
    refine gSt (gStep_run rfl ?_) ?_
    · intro ρ W hC hc hf hL
      have e3 : ρ (.tmp 3) = .pointer (some ⟨w.heap.size + 1, 0, none⟩) := hL 3 (by decide +kernel)
      have bn := hC.b.n
      have be := hC.b.e
      have b0 := hC.b.x0
      have b1 := hC.b.x1
      have b2 := hC.b.x2
      have b3 := hC.b.x3
      have b4 := hC.b.x4
      have b5 := hC.b.x5
      have b6 := hC.b.x6
      have b7 := hC.b.x7
      simp [go_sem, hc, hf, e3, bn, be, b0, b1, b2, b3, b4, b5, b6, b7]
      exact ⟨Below.refl _ _, rfl⟩
    refine gSt (gStep_run rfl ?_) ?_
    · intro ρ W hC hc hf hL
      have e17 : ρ (.tmp 17) = .agg #[.bool (n2), .int .i64 (eb), .int .u64 (dgl (b) 0 : Nat), .int .u64 (dgl (b) 1 : Nat), .int .u64 (dgl (b) 2 : Nat), .int .u64 (dgl (b) 3 : Nat), .int .u64 (dgl (b) 4 : Nat), .int .u64 (dgl (b) 5 : Nat), .int .u64 (dgl (b) 6 : Nat), .int .u64 (dgl (b) 7 : Nat)] := hL 17 (by decide +kernel)
      simp [go_sem, hc, hf, e17]
      refine (HS2.out W).mono ?_
      rintro e w' ⟨rfl, hb⟩
      exact ⟨_, rfl, by first | exact hb | (subst hb; exact Below.refl _ _), rfl⟩
    refine gSt (gStep_run rfl ?_) ?_
    · intro ρ W hC hc hf hL
      have e16 : ρ (.tmp 16) = .int .i64 x := hL 16 (by decide +kernel)
      have e18 : ρ (.tmp 18) = .int .i64 y := hL 18 (by decide +kernel)
      have l0 := HNE.out
      have l1 : (x != y) = false := by show (!(x == y)) = _; rw [l0]; rfl
      simp [go_sem, hc, hf, e16, e18, l0, l1, -beq_eq_false_iff_ne, -beq_iff_eq, -bne_iff_ne]
      exact ⟨Below.refl _ _, rfl⟩
    refine gSt (gStep_run rfl (gRun_move 19 14 (.inr rfl) rfl (by decide +kernel) (fun v w h => h))) ?_
    exact gSt0
  · intro W hC
    refine gFi 15 rfl ?_
    rintro _ rfl
    refine gFi 16 rfl ?_
    rintro _ rfl
    refine gFi 17 rfl ?_
    rintro _ rfl
    refine gFi 18 rfl ?_
    rintro _ rfl
    refine gFi 19 rfl ?_
    rintro _ rfl
    refine gFi 14 rfl ?_
    rintro _ rfl
    refine gFi0 ?_
    simp only [List.drop_succ_cons, List.drop_zero, Act.put, List.setIfInBounds_toArray, List.set_cons_succ, List.set_cons_zero]
    have HS := hide hC
    clear hC h1
    go_upto_region 5 with fail
    refine wp_gen (fun W => GrSt n1 n2 ea eb a b w W) HS.out ?_
    clear HS
    rintro W4 h1
    refine wp_region_grow 7 [(25, .val (.agg #[.bool (n1), .int .i64 (ea), .int .u64 (dgl (a) 0 : Nat), .int .u64 (dgl (a) 1 : Nat), .int .u64 (dgl (a) 2 : Nat), .int .u64 (dgl (a) 3 : Nat), .int .u64 (dgl (a) 4 : Nat), .int .u64 (dgl (a) 5 : Nat), .int .u64 (dgl (a) 6 : Nat), .int .u64 (dgl (a) 7 : Nat)])), (26, .val (.int .i64 x)), (27, .val (.agg #[.bool (n1), .int .i64 (ea), .int .u64 (dgl (a) 0 : Nat), .int .u64 (dgl (a) 1 : Nat), .int .u64 (dgl (a) 2 : Nat), .int .u64 (dgl (a) 3 : Nat), .int .u64 (dgl (a) 4 : Nat), .int .u64 (dgl (a) 5 : Nat), .int .u64 (dgl (a) 6 : Nat), .int .u64 (dgl (a) 7 : Nat)])), (28, .val (.agg #[.bool (n2), .int .i64 (eb), .int .u64 (dgl (b) 0 : Nat), .int .u64 (dgl (b) 1 : Nat), .int .u64 (dgl (b) 2 : Nat), .int .u64 (dgl (b) 3 : Nat), .int .u64 (dgl (b) 4 : Nat), .int .u64 (dgl (b) 5 : Nat), .int .u64 (dgl (b) 6 : Nat), .int .u64 (dgl (b) 7 : Nat)])), (29, .val (.int .i64 g)), (30, .val (.int .i64 r)), (4, .val (.int .i64 r))]
      (fun W => GrSt n1 n2 ea eb a b w W) mixedOk (by kernel_rfl) (by kernel_rfl) (h1.below (Below.refl _ _).drew) (fun W W' h hb => h.below hb) ?_ ?_
    · refine gSt (gStep_run rfl ?_) ?_
      · intro ρ W hC hc hf hL
        have e2 : ρ (.tmp 2) = .pointer (some ⟨w.heap.size, 0, none⟩) := hL 2 (by decide +kernel)
        have an := hC.a.n
        have ae := hC.a.e
        have a0 := hC.a.x0
        have a1 := hC.a.x1
        have a2 := hC.a.x2
        have a3 := hC.a.x3
        have a4 := hC.a.x4
        have a5 := hC.a.x5
        have a6 := hC.a.x6
        have a7 := hC.a.x7
        simp [go_sem, hc, hf, e2, an, ae, a0, a1, a2, a3, a4, a5, a6, a7]
        exact ⟨Below.refl _ _, rfl⟩
      refine gSt (gStep_run rfl ?_) ?_
      · intro ρ W hC hc hf hL
        have e25 : ρ (.tmp 25) = .agg #[.bool (n1), .int .i64 (ea), .int .u64 (dgl (a) 0 : Nat), .int .u64 (dgl (a) 1 : Nat), .int .u64 (dgl (a) 2 : Nat), .int .u64 (dgl (a) 3 : Nat), .int .u64 (dgl (a) 4 : Nat), .int .u64 (dgl (a) 5 : Nat), .int .u64 (dgl (a) 6 : Nat), .int .u64 (dgl (a) 7 : Nat)] := hL 25 (by decide +kernel)
        simp [go_sem, hc, hf, e25]
        refine (HS1.out W).mono ?_
        rintro e w' ⟨rfl, hb⟩
        exact ⟨_, rfl, by first | exact hb | (subst hb; exact Below.refl _ _), rfl⟩
      refine gSt (gStep_run rfl ?_) ?_
      · intro ρ W hC hc hf hL
        have e2 : ρ (.tmp 2) = .pointer (some ⟨w.heap.size, 0, none⟩) := hL 2 (by decide +kernel)
        have an := hC.a.n
        have ae := hC.a.e
        have a0 := hC.a.x0
        have a1 := hC.a.x1
        have a2 := hC.a.x2
        have a3 := hC.a.x3
        have a4 := hC.a.x4
        have a5 := hC.a.x5
        have a6 := hC.a.x6
        have a7 := hC.a.x7
        simp [go_sem, hc, hf, e2, an, ae, a0, a1, a2, a3, a4, a5, a6, a7]
        exact ⟨Below.refl _ _, rfl⟩
      refine gSt (gStep_run rfl ?_) ?_
      · intro ρ W hC hc hf hL
        have e3 : ρ (.tmp 3) = .pointer (some ⟨w.heap.size + 1, 0, none⟩) := hL 3 (by decide +kernel)
        have bn := hC.b.n
        have be := hC.b.e
        have b0 := hC.b.x0
        have b1 := hC.b.x1
        have b2 := hC.b.x2
        have b3 := hC.b.x3
        have b4 := hC.b.x4
        have b5 := hC.b.x5
        have b6 := hC.b.x6
        have b7 := hC.b.x7
        simp [go_sem, hc, hf, e3, bn, be, b0, b1, b2, b3, b4, b5, b6, b7]
        exact ⟨Below.refl _ _, rfl⟩
      refine gSt (gStep_run rfl ?_) ?_
      · intro ρ W hC hc hf hL
        have e27 : ρ (.tmp 27) = .agg #[.bool (n1), .int .i64 (ea), .int .u64 (dgl (a) 0 : Nat), .int .u64 (dgl (a) 1 : Nat), .int .u64 (dgl (a) 2 : Nat), .int .u64 (dgl (a) 3 : Nat), .int .u64 (dgl (a) 4 : Nat), .int .u64 (dgl (a) 5 : Nat), .int .u64 (dgl (a) 6 : Nat), .int .u64 (dgl (a) 7 : Nat)] := hL 27 (by decide +kernel)
        have e28 : ρ (.tmp 28) = .agg #[.bool (n2), .int .i64 (eb), .int .u64 (dgl (b) 0 : Nat), .int .u64 (dgl (b) 1 : Nat), .int .u64 (dgl (b) 2 : Nat), .int .u64 (dgl (b) 3 : Nat), .int .u64 (dgl (b) 4 : Nat), .int .u64 (dgl (b) 5 : Nat), .int .u64 (dgl (b) 6 : Nat), .int .u64 (dgl (b) 7 : Nat)] := hL 28 (by decide +kernel)
        simp [go_sem, hc, hf, e27, e28]
        refine (HGR.out W).mono ?_
        rintro e w' ⟨rfl, hb⟩
        exact ⟨_, rfl, by first | exact hb | (subst hb; exact Below.refl _ _), rfl⟩
      refine gSt (gStep_run rfl ?_) ?_
      · intro ρ W hC hc hf hL
        have e26 : ρ (.tmp 26) = .int .i64 x := hL 26 (by decide +kernel)
        have e29 : ρ (.tmp 29) = .int .i64 g := hL 29 (by decide +kernel)
        have l0 := HMU.out
        simp [go_sem, hc, hf, e26, e29, l0]
        exact ⟨Below.refl _ _, rfl⟩
      refine gSt (gStep_run rfl (gRun_move 30 4 (.inr rfl) rfl (by decide +kernel) (fun v w h => h))) ?_
      exact gSt0
    · intro W hC
      refine gFi 25 rfl ?_
      rintro _ rfl
      refine gFi 26 rfl ?_
      rintro _ rfl
      refine gFi 27 rfl ?_
      rintro _ rfl
      refine gFi 28 rfl ?_
      rintro _ rfl
      refine gFi 29 rfl ?_
      rintro _ rfl
      refine gFi 30 rfl ?_
      rintro _ rfl
      refine gFi 4 rfl ?_
      rintro _ rfl
      refine gFi0 ?_
      simp only [List.drop_succ_cons, List.drop_zero, Act.put, List.setIfInBounds_toArray, List.set_cons_succ, List.set_cons_zero]
      have HB := hide hC.bel
      clear hC h1
      go_wp2
      go_ret
      exact ⟨rfl, HB.out⟩

end Go.Proofs.YtpcjdllijkjdkaaDoor

/- Contracts: unpack.greater, Cmp with their numbers; unpack.Same; the document's sign, Cmp. -/
set_option linter.unusedVariables false
set_option linter.unusedSimpArgs false
set_option maxRecDepth 8000
namespace Go.Proofs.YtpcjdllijkjdkaaDoor
open Go.RowKit Plain

/-- Two numbers without signs, held against each other. -/
def cmpV (a : Nat) (ea : Int) (b : Nat) (eb : Int) : Int := cmpN (vl a ea (min ea eb)) (vl b eb (min ea eb))
theorem cmpN_scale (x y k : Nat) : cmpN (x * 2 ^ k) (y * 2 ^ k) = cmpN x y := by
  have hp := Nat.two_pow_pos k
  have h1 : x * 2 ^ k < y * 2 ^ k ↔ x < y := ⟨fun h => Nat.lt_of_mul_lt_mul_right h, fun h => Nat.mul_lt_mul_of_pos_right h hp⟩
  have h2 : y * 2 ^ k < x * 2 ^ k ↔ y < x := ⟨fun h => Nat.lt_of_mul_lt_mul_right h, fun h => Nat.mul_lt_mul_of_pos_right h hp⟩
  unfold cmpN
  simp only [h1, h2]
theorem cmpV_top (a b : Nat) (ea eb : Int) (ha : a ≠ 0) (hb : b ≠ 0) (ht : ea + (Go.bitLen a : Int) ≠ eb + (Go.bitLen b : Int)) : cmpI (ea + (Go.bitLen a : Int) - 1) (eb + (Go.bitLen b : Int) - 1) = cmpV a ea b eb := by
  have hs := sizeZ_spec a b ea eb (min ea eb) (by omega) (by omega)
  unfold sizeZ at hs
  rw [if_neg ha, if_neg hb, if_pos ht] at hs
  unfold cmpV cmpI cmpN
  rcases Int.lt_or_gt_of_ne ht with hl | hl
  · rw [if_pos (by omega), if_pos (hs.1.1 (by omega))]
  · have h3 : ¬ vl a ea (min ea eb) < vl b eb (min ea eb) := fun h => by have := hs.1.2 h; omega
    have h4 : ¬ vl a ea (min ea eb) = vl b eb (min ea eb) := fun h => by have := hs.2.2 h; omega
    rw [if_neg (by omega), if_pos (by omega), if_neg h3, if_pos (by omega)]
theorem cmpV_same (a b : Nat) (ea eb : Int) (hla : Go.bitLen a ≤ 512) (hlb : Go.bitLen b ≤ 512) (ht : ea + (Go.bitLen a : Int) = eb + (Go.bitLen b : Int)) : cmpN (a * 2 ^ (512 - Go.bitLen a)) (b * 2 ^ (512 - Go.bitLen b)) = cmpV a ea b eb := by
  unfold cmpV vl
  obtain ⟨k, hk⟩ : ∃ k : Nat, (k : Int) = 512 - (Go.bitLen a : Int) - (ea - min ea eb) := ⟨(512 - (Go.bitLen a : Int) - (ea - min ea eb)).toNat, by omega⟩
  rw [show 512 - Go.bitLen a = (ea - min ea eb).toNat + k by omega, show 512 - Go.bitLen b = (eb - min ea eb).toNat + k by omega, Nat.pow_add, Nat.pow_add, ← Nat.mul_assoc, ← Nat.mul_assoc, cmpN_scale]
theorem cmpV_zero (ea eb : Int) : cmpV 0 ea 0 eb = 0 := by unfold cmpV; rw [vl_zero, vl_zero]; rfl
theorem cmpN_bdu (x y : Nat) : -1 ≤ cmpN x y ∧ cmpN x y ≤ 1 := by
  unfold cmpN
  repeat' split
  all_goals omega
theorem shl_top {s : Nat} (h : s < QQ) : s * 2 ^ (512 - Go.bitLen s) < QQ := by
  have h1 := len_lt s
  have h2 := len_qq h
  obtain ⟨q, hq⟩ : ∃ q, q = 512 := ⟨_, rfl⟩
  have e := qq_pow q hq
  rw [← e, show q = Go.bitLen s + (512 - Go.bitLen s) by omega, Nat.pow_add]
  exact Nat.mul_lt_mul_of_pos_right h1 (Nat.two_pow_pos _)
theorem rgt_bd {z : Int} (h : rgt z = true) : -1048576 ≤ z ∧ z ≤ 1048576 := by
  unfold rgt at h
  rw [Bool.and_eq_true, decide_eq_true_iff, decide_eq_true_iff] at h
  exact h
theorem top_zero (neg : Bool) (z : Int) (hr : rgt z = true) (w : World) : Calls Tryd.prog 48 #[.agg #[.bool (neg), .int .i64 (z), .int .u64 (dgl (0) 0 : Nat), .int .u64 (dgl (0) 1 : Nat), .int .u64 (dgl (0) 2 : Nat), .int .u64 (dgl (0) 3 : Nat), .int .u64 (dgl (0) 4 : Nat), .int .u64 (dgl (0) 5 : Nat), .int .u64 (dgl (0) 6 : Nat), .int .u64 (dgl (0) 7 : Nat)]] w fun e w' => e = .returned (.tuple #[.int .i64 0, .bool false]) ∧ Below w.heap.size w w' := top_Z neg z 0 hr (rgt_bd hr) w
theorem greater_any (n1 n2 : Bool) (ea eb : Int) (a b : Nat) (ha : a < QQ) (hb : b < QQ) (hra : rgt ea = true) (hrb : rgt eb = true) (h0 : a = 0 ↔ b = 0) (w : World) : Calls Tryd.prog 86 #[.agg #[.bool (n1), .int .i64 (ea), .int .u64 (dgl (a) 0 : Nat), .int .u64 (dgl (a) 1 : Nat), .int .u64 (dgl (a) 2 : Nat), .int .u64 (dgl (a) 3 : Nat), .int .u64 (dgl (a) 4 : Nat), .int .u64 (dgl (a) 5 : Nat), .int .u64 (dgl (a) 6 : Nat), .int .u64 (dgl (a) 7 : Nat)], .agg #[.bool (n2), .int .i64 (eb), .int .u64 (dgl (b) 0 : Nat), .int .u64 (dgl (b) 1 : Nat), .int .u64 (dgl (b) 2 : Nat), .int .u64 (dgl (b) 3 : Nat), .int .u64 (dgl (b) 4 : Nat), .int .u64 (dgl (b) 5 : Nat), .int .u64 (dgl (b) 6 : Nat), .int .u64 (dgl (b) 7 : Nat)]] w fun e w' => e = .returned (.int .i64 (cmpV a ea b eb)) ∧ Below w.heap.size w w' := by
  have la := len_qq ha
  have lb := len_qq hb
  have HLA := fun w => wideLen_any a ha w
  have HLB := fun w => wideLen_any b hb w
  have HSA := fun w => shl_num a (512 - Go.bitLen a) (by omega) ha w
  have HSB := fun w => shl_num b (512 - Go.bitLen b) (by omega) hb w
  rw [show ((512 - Go.bitLen a : Nat) : Int) = 512 - (Go.bitLen a : Int) by omega] at HSA
  rw [show ((512 - Go.bitLen b : Nat) : Int) = 512 - (Go.bitLen b : Int) by omega] at HSB
  have HCM := fun w => wideCmp_any (a * 2 ^ (512 - Go.bitLen a)) (b * 2 ^ (512 - Go.bitLen b)) (shl_top ha) (shl_top hb) w
  by_cases hz : a = 0
  · have hz2 := h0.1 hz
    subst hz
    subst hz2
    rw [cmpV_zero]
    simp only [Nat.zero_mul] at HCM
    simp only [Nat.zero_mul] at HSA HSB
    exact greater_E n1 n2 ea eb 0 0 0 0 0 false false 0 0 0 0 (fun w => top_zero n1 ea hra w) (fun w => top_zero n2 eb hrb w) rfl (by omega) (by omega) HLA HLB HSA HSB HCM w
  · have hz2 : b ≠ 0 := fun h => hz (h0.2 h)
    have T1 := fun w => top_Y n1 ea a hra (rgt_bd hra) ha hz w
    have T2 := fun w => top_Y n2 eb b hrb (rgt_bd hrb) hb hz2 w
    by_cases ht : ea + (Go.bitLen a : Int) = eb + (Go.bitLen b : Int)
    · rw [← cmpV_same a b ea eb la lb ht]
      exact greater_E n1 n2 ea eb a b _ _ _ true true (Go.bitLen a) (Go.bitLen b) _ _ T1 T2 (by unfold Hid; rw [bne_eq_false_iff_eq]; omega) la lb HLA HLB HSA HSB HCM w
    · rw [← cmpV_top a b ea eb hz hz2 ht]
      exact greater_D n1 n2 ea eb a b _ _ 0 true true 0 0 0 0 T1 T2 (by unfold Hid; rw [bne_iff_ne]; omega) w

/-- Two numbers, held against each other. -/
def cZ (n1 : Bool) (a : Nat) (ea : Int) (n2 : Bool) (b : Nat) (eb : Int) : Int := if sgnZ n1 a = sgnZ n2 b then sgnZ n1 a * cmpV a ea b eb else cmpI (sgnZ n1 a) (sgnZ n2 b)
theorem sgn_cases (n : Bool) (s : Nat) : (s = 0 ∧ sgnZ n s = 0) ∨ (s ≠ 0 ∧ n = true ∧ sgnZ n s = -1) ∨ (s ≠ 0 ∧ n = false ∧ sgnZ n s = 1) := by
  unfold sgnZ
  by_cases h : s = 0
  · exact .inl ⟨h, if_pos h⟩
  · rw [if_neg h]
    cases n
    · exact .inr (.inr ⟨h, rfl, rfl⟩)
    · exact .inr (.inl ⟨h, rfl, rfl⟩)
theorem sgn_zero {n1 n2 : Bool} {a b : Nat} (h : sgnZ n1 a = sgnZ n2 b) : a = 0 ↔ b = 0 := by
  have h1 := sgn_cases n1 a
  have h2 := sgn_cases n2 b
  omega
theorem ucmp_any (n1 n2 : Bool) (ea eb : Int) (a b : Nat) (ha : a < QQ) (hb : b < QQ) (hra : rgt ea = true) (hrb : rgt eb = true) (w : World) : Calls Tryd.prog 35 #[.agg #[.bool (n1), .int .i64 (ea), .int .u64 (dgl (a) 0 : Nat), .int .u64 (dgl (a) 1 : Nat), .int .u64 (dgl (a) 2 : Nat), .int .u64 (dgl (a) 3 : Nat), .int .u64 (dgl (a) 4 : Nat), .int .u64 (dgl (a) 5 : Nat), .int .u64 (dgl (a) 6 : Nat), .int .u64 (dgl (a) 7 : Nat)], .agg #[.bool (n2), .int .i64 (eb), .int .u64 (dgl (b) 0 : Nat), .int .u64 (dgl (b) 1 : Nat), .int .u64 (dgl (b) 2 : Nat), .int .u64 (dgl (b) 3 : Nat), .int .u64 (dgl (b) 4 : Nat), .int .u64 (dgl (b) 5 : Nat), .int .u64 (dgl (b) 6 : Nat), .int .u64 (dgl (b) 7 : Nat)]] w fun e w' => e = .returned (.int .i64 (cZ n1 a ea n2 b eb)) ∧ Below w.heap.size w w' := by
  have R1 := fun w => uRight_any n1 ea a w
  have R2 := fun w => uRight_any n2 eb b w
  rw [hra] at R1
  rw [hrb] at R2
  unfold cZ
  by_cases hs : sgnZ n1 a = sgnZ n2 b
  · rw [if_pos hs]
    have hg := cmpN_bdu (vl a ea (min ea eb)) (vl b eb (min ea eb))
    have h1 := sgn_cases n1 a
    exact ucmp_S n1 n2 ea eb a b _ _ _ _ R1 R2 (fun w => usign_any n1 ea a ha w) (fun w => usign_any n2 eb b hb w) (by unfold Hid; rw [beq_iff_eq]; exact hs) (fun w => greater_any n1 n2 ea eb a b ha hb hra hrb (sgn_zero hs) w) (by
      unfold Hid cmpV
      generalize cmpN (vl a ea (min ea eb)) (vl b eb (min ea eb)) = g at hg
      rw [IntKind.wrap_i64]
      rcases h1 with ⟨_, h1⟩ | ⟨_, _, h1⟩ | ⟨_, _, h1⟩
      · rw [h1]; omega
      · rw [h1]; omega
      · rw [h1]; omega) w
  · rw [if_neg hs]
    exact ucmp_D n1 n2 ea eb a b _ _ 0 0 R1 R2 (fun w => usign_any n1 ea a ha w) (fun w => usign_any n2 eb b hb w) (by unfold Hid; rw [beq_eq_false_iff_ne]; exact hs) w
end Go.Proofs.YtpcjdllijkjdkaaDoor

