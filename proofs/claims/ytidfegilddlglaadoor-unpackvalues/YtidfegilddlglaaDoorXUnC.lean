/- Contracts and laws: UnpC, UnpD. -/
import Derived.Test.YtidfegilddlglaaDoorXUnB
import Derived.Test.YtidfegilddlglaaDoorXClsO
/- Contracts: the closures of unpack.Value and Unpack; unpack.Value, Unpack, at any format. -/
set_option linter.unusedVariables false
set_option linter.unusedSimpArgs false
set_option maxRecDepth 8000
namespace Go.Proofs.YtidfegilddlglaaDoor
open Go.RowKit Plain

def kU (f : Int) : Nat → Int := tU f (fun i => ([16, 11, 15, -14, 5] : List Int).getD i 0) (fun i => ([32, 24, 127, -126, 8] : List Int).getD i 0) (fun i => ([64, 53, 1023, -1022, 11] : List Int).getD i 0) (fun i => ([128, 113, 16383, -16382, 15] : List Int).getD i 0) (fun _ => 0)
def prU (f : Int) : Nat := tU f 11 24 53 113 0
def loU (f : Int) : Int := tU f (-24) (-149) (-1074) (-16494) 0
def sigU (f : Int) (a : Nat) : Nat := if fldU f a = 0 then frcU f a else frcU f a + 2 ^ (prU f - 1)
def expU (f : Int) (a : Nat) : Int := if fldU f a = 0 then loU f else loU f + ((fldU f a : Int) - 1)
theorem of_u (f : Int) (h : 1 ≤ f ∧ f ≤ 4) (w : World) (hg : FmtG w) : Calls Tryd.prog 66 #[.int .i64 f] w fun e w' => e = .returned (.tuple #[.agg #[.int .i64 (kU f 0), .int .i64 (kU f 1), .int .i64 (kU f 2), .int .i64 (kU f 3), .int .i64 (kU f 4)], .bool true]) ∧ Below w.heap.size w w' := by
  rcases f_cases f with rfl | rfl | rfl | rfl | h0
  · exact of_1 w hg
  · exact of_2 w hg
  · exact of_3 w hg
  · exact of_4 w hg
  · omega
theorem low_u (f : Int) (h : 1 ≤ f ∧ f ≤ 4) (w : World) : Calls Tryd.prog 83 #[.agg #[.int .i64 (kU f 0), .int .i64 (kU f 1), .int .i64 (kU f 2), .int .i64 (kU f 3), .int .i64 (kU f 4)]] w fun e w' => e = .returned (.int .i64 (loU f)) ∧ Below w.heap.size w w' := by
  rcases f_cases f with rfl | rfl | rfl | rfl | h0
  · exact low_1 w
  · exact low_2 w
  · exact low_3 w
  · exact low_4 w
  · omega
theorem kU_1 (f : Int) (h : 1 ≤ f ∧ f ≤ 4) : kU f 1 = (prU f : Int) := by
  rcases f_cases f with rfl | rfl | rfl | rfl | h0
  · rfl
  · rfl
  · rfl
  · rfl
  · omega
theorem prU_bd (f : Int) (h : 1 ≤ f ∧ f ≤ 4) : 11 ≤ prU f ∧ prU f ≤ 113 := by
  rcases f_cases f with rfl | rfl | rfl | rfl | h0
  · decide
  · decide
  · decide
  · decide
  · omega
theorem loU_bd (f : Int) : -20000 ≤ loU f ∧ loU f ≤ 0 := by
  unfold loU tU
  repeat' split
  all_goals decide
theorem fldU_le (f : Int) (a : Nat) : fldU f a ≤ 32767 := by
  unfold fldU tU fldN
  repeat' split
  all_goals omega
theorem cls_form {f : Int} {a : Nat} (h : clsU f a ≠ 0) : 1 ≤ f ∧ f ≤ 4 := by
  refine Classical.byContradiction fun h0 => h ?_
  exact tU_none f (by omega) _ _ _ _ _
theorem frcU_lt (f : Int) (a : Nat) (h : 1 ≤ f ∧ f ≤ 4) : frcU f a < 2 ^ (prU f - 1) := by
  rcases f_cases f with rfl | rfl | rfl | rfl | h0
  · show frcN 16 11 a < 2 ^ 10
    unfold frcN; split
    · exact Nat.mod_lt _ (by decide)
    · decide
  · show frcN 32 24 a < 2 ^ 23
    unfold frcN; split
    · exact Nat.mod_lt _ (by decide)
    · decide
  · show frcN 64 53 a < 2 ^ 52
    unfold frcN; split
    · exact Nat.mod_lt _ (by decide)
    · decide
  · show frcN 128 113 a < 2 ^ 112
    unfold frcN; split
    · exact Nat.mod_lt _ (by decide)
    · decide
  · omega
theorem sigU_lt (f : Int) (a : Nat) (h : 1 ≤ f ∧ f ≤ 4) : sigU f a < 2 ^ prU f := by
  have h1 := frcU_lt f a h
  have h2 := (prU_bd f h).1
  have h3 : 2 ^ prU f = 2 * 2 ^ (prU f - 1) := by rw [← Nat.pow_succ']; congr 1; omega
  unfold sigU
  split <;> omega
theorem pow_qq (n : Nat) (h : n ≤ 200) : 2 ^ n < QQ := by
  have h1 : (2 : Nat) ^ n ≤ 2 ^ 200 := Nat.pow_le_pow_right (by decide) h
  have h2 : 2 ^ 200 < QQ := by decide +kernel
  omega
theorem sigU_qq (f : Int) (a : Nat) (h : 1 ≤ f ∧ f ≤ 4) : sigU f a < QQ := by
  have h1 := sigU_lt f a h
  have h2 := pow_qq (prU f) (by have := (prU_bd f h).2; omega)
  omega

set_option maxHeartbeats 1000000 in
theorem valC1_any (k : Nat → Int) (s : Nat) (w : World) : Calls Tryd.prog 80 #[.agg #[.int .i64 (k 0), .int .i64 (k 1), .int .i64 (k 2), .int .i64 (k 3), .int .i64 (k 4)], .agg #[.int .u64 (dgl (s) 0 : Nat), .int .u64 (dgl (s) 1 : Nat), .int .u64 (dgl (s) 2 : Nat), .int .u64 (dgl (s) 3 : Nat), .int .u64 (dgl (s) 4 : Nat), .int .u64 (dgl (s) 5 : Nat), .int .u64 (dgl (s) 6 : Nat), .int .u64 (dgl (s) 7 : Nat)]] w fun e w' => e = .returned (.tuple #[.int .i64 0, .bool true]) ∧ Below w.heap.size w w' := by
  go_enter Tryd.func80, Tryd.ntmps80
  go_wp2
  exact bodyPost_ret (v := .tuple #[.int .i64 0, .bool true]) (by simp [results, Tryd.results80, go_sem]) rfl ⟨rfl, below_trans (below_allocs _ _) (below_allocs _ _)⟩
structure UcSt (k : Nat → Int) (s : Nat) (w W : World) : Prop where
  rk : ∀ i, i < 5 → W.cell? ⟨w.heap.size, i, none⟩ = some (.int .i64 (k i))
  ls : LiesF W (w.heap.size + 1) (dgl s)
  bel : Below w.heap.size w W
theorem UcSt.below {k : Nat → Int} {s : Nat} {w W W' : World} (h : UcSt k s w W) (hb : Below W.heap.size W W') : UcSt k s w W' :=
  ⟨fun i hi => (hb.cell (p := ⟨w.heap.size, i, none⟩) (show w.heap.size < W.heap.size by have := h.ls.2; omega)).trans (h.rk i hi), h.ls.below hb, below_trans h.bel hb⟩
theorem ucSt_start (k : Nat → Int) (s : Nat) (w : World) : UcSt k s w ((w.alloc (.cells #[.int .i64 (k 0), .int .i64 (k 1), .int .i64 (k 2), .int .i64 (k 3), .int .i64 (k 4)] 69)).alloc (.cells #[.int .u64 (dgl (s) 0 : Nat), .int .u64 (dgl (s) 1 : Nat), .int .u64 (dgl (s) 2 : Nat), .int .u64 (dgl (s) 3 : Nat), .int .u64 (dgl (s) 4 : Nat), .int .u64 (dgl (s) 5 : Nat), .int .u64 (dgl (s) 6 : Nat), .int .u64 (dgl (s) 7 : Nat)] 28)) := by
  have h1 := liesF_new (w.alloc (.cells #[.int .i64 (k 0), .int .i64 (k 1), .int .i64 (k 2), .int .i64 (k 3), .int .i64 (k 4)] 69)) (dgl s) 28
  rw [World.size_alloc] at h1
  have hb := below_allocs (w.alloc (.cells #[.int .i64 (k 0), .int .i64 (k 1), .int .i64 (k 2), .int .i64 (k 3), .int .i64 (k 4)] 69)) (.cells #[.int .u64 (dgl (s) 0 : Nat), .int .u64 (dgl (s) 1 : Nat), .int .u64 (dgl (s) 2 : Nat), .int .u64 (dgl (s) 3 : Nat), .int .u64 (dgl (s) 4 : Nat), .int .u64 (dgl (s) 5 : Nat), .int .u64 (dgl (s) 6 : Nat), .int .u64 (dgl (s) 7 : Nat)] 28)
  exact ⟨fun i hi => (hb.cell (p := ⟨w.heap.size, i, none⟩) (by simp)).trans (rec5_new w k _ i hi), h1, below_trans (below_allocs _ _) hb⟩
set_option maxHeartbeats 1000000 in
theorem unpC1_any (k : Nat → Int) (s l : Nat) (z : Int) (b : Bool) (hs : s < QQ) (hl : Go.bitLen s = l) (hz : IntKind.i64.wrap (k 1 - (l : Int)) = z) (hb : (!decide (s = 0)) = b) (w : World) : Calls Tryd.prog 81 #[.agg #[.int .i64 (k 0), .int .i64 (k 1), .int .i64 (k 2), .int .i64 (k 3), .int .i64 (k 4)], .agg #[.int .u64 (dgl (s) 0 : Nat), .int .u64 (dgl (s) 1 : Nat), .int .u64 (dgl (s) 2 : Nat), .int .u64 (dgl (s) 3 : Nat), .int .u64 (dgl (s) 4 : Nat), .int .u64 (dgl (s) 5 : Nat), .int .u64 (dgl (s) 6 : Nat), .int .u64 (dgl (s) 7 : Nat)]] w fun e w' => e = .returned (.tuple #[.int .i64 z, .bool b]) ∧ Below w.heap.size w w' := by
  have HST := hide (ucSt_start k s w)
  have HLN := hide (fun w => wideLen_any s hs w)
  rw [hl] at HLN
  have HEQ : Hid (∀ w, (Op.equalIn 10000 28 (.agg #[.int .u64 (dgl (s) 0 : Nat), .int .u64 (dgl (s) 1 : Nat), .int .u64 (dgl (s) 2 : Nat), .int .u64 (dgl (s) 3 : Nat), .int .u64 (dgl (s) 4 : Nat), .int .u64 (dgl (s) 5 : Nat), .int .u64 (dgl (s) 6 : Nat), .int .u64 (dgl (s) 7 : Nat)]) (.agg #[.int .u64 0, .int .u64 0, .int .u64 0, .int .u64 0, .int .u64 0, .int .u64 0, .int .u64 0, .int .u64 0])).run Tryd.prog w = .ok (!b) w) := fun w => by rw [← hb, Bool.not_not]; exact wide_eqz hs w
  have HZ := hide hz
  clear hs hl hz hb
  go_enter Tryd.func81, Tryd.ntmps81
  go_upto_region 1 with fail
  refine wp_gen (fun W => UcSt k s w W) HST.out ?_
  clear HST
  rintro W1 h1
  refine wp_region_grow 10 [(6, .val (.pointer (some ⟨w.heap.size, 1, none⟩))), (7, .val (.int .i64 (k 1))), (8, .val (.agg #[.int .u64 (dgl (s) 0 : Nat), .int .u64 (dgl (s) 1 : Nat), .int .u64 (dgl (s) 2 : Nat), .int .u64 (dgl (s) 3 : Nat), .int .u64 (dgl (s) 4 : Nat), .int .u64 (dgl (s) 5 : Nat), .int .u64 (dgl (s) 6 : Nat), .int .u64 (dgl (s) 7 : Nat)])), (9, .val (.int .i64 (l : Nat))), (10, .val (.int .i64 z)), (11, .val (.agg #[.int .u64 (dgl (s) 0 : Nat), .int .u64 (dgl (s) 1 : Nat), .int .u64 (dgl (s) 2 : Nat), .int .u64 (dgl (s) 3 : Nat), .int .u64 (dgl (s) 4 : Nat), .int .u64 (dgl (s) 5 : Nat), .int .u64 (dgl (s) 6 : Nat), .int .u64 (dgl (s) 7 : Nat)])), (12, .val (.agg #[.int .u64 0, .int .u64 0, .int .u64 0, .int .u64 0, .int .u64 0, .int .u64 0, .int .u64 0, .int .u64 0])), (13, .val (.bool b)), (4, .val (.int .i64 z)), (5, .val (.bool b))]
    (fun W => UcSt k s w W) mixedOk (by kernel_rfl) (by kernel_rfl) (h1.below (Below.refl _ _).drew) (fun W W' h hb => h.below hb) ?_ ?_
  · refine gSt (gStep_run rfl ?_) ?_
    · intro ρ W hC hc hf hL
      have e2 : ρ (.tmp 2) = .pointer (some ⟨w.heap.size, 0, none⟩) := hL 2 (by decide +kernel)
      simp [go_sem, hc, hf, e2]
      exact ⟨Below.refl _ _, rfl⟩
    refine gSt (gStep_run rfl ?_) ?_
    · intro ρ W hC hc hf hL
      have e6 : ρ (.tmp 6) = .pointer (some ⟨w.heap.size, 1, none⟩) := hL 6 (by decide +kernel)
      have l0 := hC.rk 1 (by decide)
      simp [go_sem, hc, hf, e6, l0]
      exact ⟨Below.refl _ _, rfl⟩
    refine gSt (gStep_run rfl ?_) ?_
    · intro ρ W hC hc hf hL
      have e3 : ρ (.tmp 3) = .pointer (some ⟨w.heap.size + 1, 0, none⟩) := hL 3 (by decide +kernel)
      have l0 := hC.ls.1
      simp [go_sem, hc, hf, e3, l0]
      exact ⟨Below.refl _ _, rfl⟩
    refine gSt (gStep_run rfl ?_) ?_
    · intro ρ W hC hc hf hL
      have e8 : ρ (.tmp 8) = .agg #[.int .u64 (dgl (s) 0 : Nat), .int .u64 (dgl (s) 1 : Nat), .int .u64 (dgl (s) 2 : Nat), .int .u64 (dgl (s) 3 : Nat), .int .u64 (dgl (s) 4 : Nat), .int .u64 (dgl (s) 5 : Nat), .int .u64 (dgl (s) 6 : Nat), .int .u64 (dgl (s) 7 : Nat)] := hL 8 (by decide +kernel)
      simp [go_sem, hc, hf, e8]
      refine (HLN.out W).mono ?_
      rintro e w' ⟨rfl, hb⟩
      exact ⟨_, rfl, by first | exact hb | (subst hb; exact Below.refl _ _), rfl⟩
    refine gSt (gStep_run rfl ?_) ?_
    · intro ρ W hC hc hf hL
      have e7 : ρ (.tmp 7) = .int .i64 (k 1) := hL 7 (by decide +kernel)
      have e9 : ρ (.tmp 9) = .int .i64 (l : Nat) := hL 9 (by decide +kernel)
      have l0 := HZ.out
      simp [go_sem, hc, hf, e7, e9, l0]
      exact ⟨Below.refl _ _, rfl⟩
    refine gSt (gStep_run rfl ?_) ?_
    · intro ρ W hC hc hf hL
      have e3 : ρ (.tmp 3) = .pointer (some ⟨w.heap.size + 1, 0, none⟩) := hL 3 (by decide +kernel)
      have l0 := hC.ls.1
      simp [go_sem, hc, hf, e3, l0]
      exact ⟨Below.refl _ _, rfl⟩
    refine gSt (gStep_run rfl ?_) ?_
    · intro ρ W hC hc hf hL
      simp [go_sem, hc, hf]
      exact ⟨Below.refl _ _, rfl⟩
    refine gSt (gStep_run rfl ?_) ?_
    · intro ρ W hC hc hf hL
      have e11 : ρ (.tmp 11) = .agg #[.int .u64 (dgl (s) 0 : Nat), .int .u64 (dgl (s) 1 : Nat), .int .u64 (dgl (s) 2 : Nat), .int .u64 (dgl (s) 3 : Nat), .int .u64 (dgl (s) 4 : Nat), .int .u64 (dgl (s) 5 : Nat), .int .u64 (dgl (s) 6 : Nat), .int .u64 (dgl (s) 7 : Nat)] := hL 11 (by decide +kernel)
      have e12 : ρ (.tmp 12) = .agg #[.int .u64 0, .int .u64 0, .int .u64 0, .int .u64 0, .int .u64 0, .int .u64 0, .int .u64 0, .int .u64 0] := hL 12 (by decide +kernel)
      have l0 := HEQ.out
      simp [go_sem, hc, hf, e11, e12, l0]
      exact ⟨Below.refl _ _, rfl⟩
    refine gSt (gStep_run rfl (gRun_move 10 4 (.inr rfl) rfl (by decide +kernel) (fun v w h => h))) ?_
    refine gSt (gStep_run rfl (gRun_move 13 5 (.inr rfl) rfl (by decide +kernel) (fun v w h => h))) ?_
    exact gSt0
  · intro W hC
    refine gFi 6 rfl ?_
    rintro _ rfl
    refine gFi 7 rfl ?_
    rintro _ rfl
    refine gFi 8 rfl ?_
    rintro _ rfl
    refine gFi 9 rfl ?_
    rintro _ rfl
    refine gFi 10 rfl ?_
    rintro _ rfl
    refine gFi 11 rfl ?_
    rintro _ rfl
    refine gFi 12 rfl ?_
    rintro _ rfl
    refine gFi 13 rfl ?_
    rintro _ rfl
    refine gFi 4 rfl ?_
    rintro _ rfl
    refine gFi 5 rfl ?_
    rintro _ rfl
    refine gFi0 ?_
    simp only [List.drop_succ_cons, List.drop_zero, Act.put, List.setIfInBounds_toArray, List.set_cons_succ, List.set_cons_zero]
    have HB := hide hC.bel
    clear hC h1
    go_wp2
    exact bodyPost_ret (v := .tuple #[.int .i64 z, .bool b]) (by simp [results, Tryd.results81, go_sem]) rfl ⟨rfl, HB.out⟩

theorem shl_num (s n : Nat) (h : n ≤ 512) (hs : s < QQ) (w : World) : Calls Tryd.prog 69 #[.agg #[.int .u64 (dgl (s) 0 : Nat), .int .u64 (dgl (s) 1 : Nat), .int .u64 (dgl (s) 2 : Nat), .int .u64 (dgl (s) 3 : Nat), .int .u64 (dgl (s) 4 : Nat), .int .u64 (dgl (s) 5 : Nat), .int .u64 (dgl (s) 6 : Nat), .int .u64 (dgl (s) 7 : Nat)], .int .i64 (n : Nat)] w fun e w' => e = .returned (.agg #[.int .u64 (dgl (s * 2 ^ n) 0 : Nat), .int .u64 (dgl (s * 2 ^ n) 1 : Nat), .int .u64 (dgl (s * 2 ^ n) 2 : Nat), .int .u64 (dgl (s * 2 ^ n) 3 : Nat), .int .u64 (dgl (s * 2 ^ n) 4 : Nat), .int .u64 (dgl (s * 2 ^ n) 5 : Nat), .int .u64 (dgl (s * 2 ^ n) 6 : Nat), .int .u64 (dgl (s * 2 ^ n) 7 : Nat)]) ∧ Below w.heap.size w w' := by
  have h1 := wideShl_any s (n : Int) hs w
  rw [show roomI (n : Int) = (n : Int) by unfold roomI; omega, sh_up] at h1
  exact h1

theorem pow_num (n : Nat) (x : Int) (h : n ≤ 512) (hx : x = (n : Int)) (w : World) : Calls Tryd.prog 86 #[.int .i64 x] w fun e w' => e = .returned (.agg #[.int .u64 (dgl (2 ^ n) 0 : Nat), .int .u64 (dgl (2 ^ n) 1 : Nat), .int .u64 (dgl (2 ^ n) 2 : Nat), .int .u64 (dgl (2 ^ n) 3 : Nat), .int .u64 (dgl (2 ^ n) 4 : Nat), .int .u64 (dgl (2 ^ n) 5 : Nat), .int .u64 (dgl (2 ^ n) 6 : Nat), .int .u64 (dgl (2 ^ n) 7 : Nat)]) ∧ Below w.heap.size w w' := by
  subst hx
  have h1 := widePower_any (n : Int) (by omega) w
  rw [show roomI (n : Int) = (n : Int) by unfold roomI; omega, sh_up, Nat.one_mul] at h1
  exact h1

theorem umoved_yes (f : Int) (a : Nat) (ha : a < 2 ^ 128) (h4 : 4 ≤ clsU f a) (fid b : Nat) (hent : ∀ args w, (callFunc fid args).run Tryd.prog w = .ok (.enter fid args) w) (hb : b ≤ 113)
    (HUP : ∀ w, Calls Tryd.prog fid #[.agg #[.int .i64 (kU f 0), .int .i64 (kU f 1), .int .i64 (kU f 2), .int .i64 (kU f 3), .int .i64 (kU f 4)], .agg #[.int .u64 (dgl (sigU f a) 0 : Nat), .int .u64 (dgl (sigU f a) 1 : Nat), .int .u64 (dgl (sigU f a) 2 : Nat), .int .u64 (dgl (sigU f a) 3 : Nat), .int .u64 (dgl (sigU f a) 4 : Nat), .int .u64 (dgl (sigU f a) 5 : Nat), .int .u64 (dgl (sigU f a) 6 : Nat), .int .u64 (dgl (sigU f a) 7 : Nat)]] w fun e w' => e = .returned (.tuple #[.int .i64 (b : Nat), .bool true]) ∧ Below w.heap.size w w') (w : World) (hg : FmtG w) :
    Calls Tryd.prog 79 #[.int .i64 f, .agg #[.int .u64 (dgl (a) 1 : Nat), .int .u64 (dgl (a) 0 : Nat)], .func (.func fid) #[] #[]] w fun e w' => e = .returned (.tuple #[.agg #[.bool (negU f a), .int .i64 (expU f a - (b : Nat)), .int .u64 (dgl (sigU f a * 2 ^ b) 0 : Nat), .int .u64 (dgl (sigU f a * 2 ^ b) 1 : Nat), .int .u64 (dgl (sigU f a * 2 ^ b) 2 : Nat), .int .u64 (dgl (sigU f a * 2 ^ b) 3 : Nat), .int .u64 (dgl (sigU f a * 2 ^ b) 4 : Nat), .int .u64 (dgl (sigU f a * 2 ^ b) 5 : Nat), .int .u64 (dgl (sigU f a * 2 ^ b) 6 : Nat), .int .u64 (dgl (sigU f a * 2 ^ b) 7 : Nat)], .bool true]) ∧ Below w.heap.size w w' := by
  have hf : 1 ≤ f ∧ f ≤ 4 := cls_form (a := a) (by omega)
  have HO := fun w hg => of_u f hf w hg
  have HFI := fun w hg => cfin_u f a ha w hg
  rw [decide_eq_true h4] at HFI
  have HFR := fun w hg => cfrac_u f a ha w hg
  have HLO := fun w => low_u f hf w
  have HFD := fun w hg => cfld_u f a ha w hg
  have HNG := fun w hg => cneg_u f a ha w hg
  have hlo := loU_bd f
  have hfd := fldU_le f a
  have hk := kU_1 f hf
  have hp := prU_bd f hf
  have hq := sigU_qq f a hf
  have hr := frcU_lt f a hf
  have hrq := Nat.lt_trans hr (pow_qq (prU f - 1) (by omega))
  have HSH := fun w => shl_num (sigU f a) b (by omega) hq w
  by_cases h0 : fldU f a = 0
  · have es : sigU f a = frcU f a := if_pos h0
    have ee : expU f a = loU f := if_pos h0
    rw [es] at HUP HSH
    rw [es, ee]
    rw [h0] at HFD
    exact moved_C1 f (loU f) (b : Nat) (kU f) a (frcU f a) 0 0 0 (frcU f a * 2 ^ b) fid false (negU f a) (.bool false) HO HFI HFR HLO HFD hlo hent HUP HNG HSH (by unfold Hid; rw [IntKind.wrap_i64]; omega) w hg
  · have es : sigU f a = frcU f a + 2 ^ (prU f - 1) := if_neg h0
    have ee : expU f a = loU f + ((fldU f a : Int) - 1) := if_neg h0
    have HPW := fun w => pow_num (prU f - 1) (kU f 1 - 1) (by omega) (by rw [hk]; omega) w
    have HAD := fun w => wideAdd_any (frcU f a) (2 ^ (prU f - 1)) hrq (pow_qq _ (by omega)) w
    rw [es] at HUP HSH
    rw [es, ee]
    exact moved_D1 f (loU f) (b : Nat) (kU f) a (frcU f a) (fldU f a) (2 ^ (prU f - 1)) (frcU f a + 2 ^ (prU f - 1)) ((frcU f a + 2 ^ (prU f - 1)) * 2 ^ b) fid _ (negU f a) (.bool false) HO HFI HFR HLO HFD hlo
      (by unfold Hid; rw [bne_iff_ne]; omega) (by omega) (by unfold Hid; rw [hk, IntKind.wrap_i64]; omega) HPW HAD hent HUP HNG HSH (by unfold Hid; rw [IntKind.wrap_i64]; omega) w hg

theorem zero10 : (#[.bool false, .int .i64 0, .int .u64 0, .int .u64 0, .int .u64 0, .int .u64 0, .int .u64 0, .int .u64 0, .int .u64 0, .int .u64 0] : Array Value) = #[.bool (false), .int .i64 (0), .int .u64 (dgl (0) 0 : Nat), .int .u64 (dgl (0) 1 : Nat), .int .u64 (dgl (0) 2 : Nat), .int .u64 (dgl (0) 3 : Nat), .int .u64 (dgl (0) 4 : Nat), .int .u64 (dgl (0) 5 : Nat), .int .u64 (dgl (0) 6 : Nat), .int .u64 (dgl (0) 7 : Nat)] := by simp [dgl_zero]
theorem umoved_no (f : Int) (a : Nat) (ha : a < 2 ^ 128) (h4 : clsU f a < 4) (fv : Value) (w : World) (hg : FmtG w) :
    Calls Tryd.prog 79 #[.int .i64 f, .agg #[.int .u64 (dgl (a) 1 : Nat), .int .u64 (dgl (a) 0 : Nat)], fv] w fun e w' => e = .returned (.tuple #[.agg #[.bool (false), .int .i64 (0), .int .u64 (dgl (0) 0 : Nat), .int .u64 (dgl (0) 1 : Nat), .int .u64 (dgl (0) 2 : Nat), .int .u64 (dgl (0) 3 : Nat), .int .u64 (dgl (0) 4 : Nat), .int .u64 (dgl (0) 5 : Nat), .int .u64 (dgl (0) 6 : Nat), .int .u64 (dgl (0) 7 : Nat)], .bool false]) ∧ Below w.heap.size w w' := by
  rw [← zero10]
  by_cases hf : 1 ≤ f ∧ f ≤ 4
  · have HFI := fun w hg => cfin_u f a ha w hg
    rw [decide_eq_false (by omega)] at HFI
    exact moved_B f 0 0 (kU f) a 0 0 0 0 0 0 false false fv (fun w hg => of_u f hf w hg) HFI w hg
  · exact moved_A f 0 0 (fun _ => 0) a 0 0 0 0 0 0 false false fv (fun w hg => of_none f (by omega) w) w hg
theorem umoved_zero (f : Int) (a : Nat) (ha : a < 2 ^ 128) (h4 : 4 ≤ clsU f a) (h0 : fldU f a = 0) (fid : Nat) (z : Int) (hent : ∀ args w, (callFunc fid args).run Tryd.prog w = .ok (.enter fid args) w)
    (HUP : ∀ w, Calls Tryd.prog fid #[.agg #[.int .i64 (kU f 0), .int .i64 (kU f 1), .int .i64 (kU f 2), .int .i64 (kU f 3), .int .i64 (kU f 4)], .agg #[.int .u64 (dgl (frcU f a) 0 : Nat), .int .u64 (dgl (frcU f a) 1 : Nat), .int .u64 (dgl (frcU f a) 2 : Nat), .int .u64 (dgl (frcU f a) 3 : Nat), .int .u64 (dgl (frcU f a) 4 : Nat), .int .u64 (dgl (frcU f a) 5 : Nat), .int .u64 (dgl (frcU f a) 6 : Nat), .int .u64 (dgl (frcU f a) 7 : Nat)]] w fun e w' => e = .returned (.tuple #[.int .i64 z, .bool false]) ∧ Below w.heap.size w w') (w : World) (hg : FmtG w) :
    Calls Tryd.prog 79 #[.int .i64 f, .agg #[.int .u64 (dgl (a) 1 : Nat), .int .u64 (dgl (a) 0 : Nat)], .func (.func fid) #[] #[]] w fun e w' => e = .returned (.tuple #[.agg #[.bool (false), .int .i64 (0), .int .u64 (dgl (0) 0 : Nat), .int .u64 (dgl (0) 1 : Nat), .int .u64 (dgl (0) 2 : Nat), .int .u64 (dgl (0) 3 : Nat), .int .u64 (dgl (0) 4 : Nat), .int .u64 (dgl (0) 5 : Nat), .int .u64 (dgl (0) 6 : Nat), .int .u64 (dgl (0) 7 : Nat)], .bool false]) ∧ Below w.heap.size w w' := by
  rw [← zero10]
  have hf : 1 ≤ f ∧ f ≤ 4 := cls_form (a := a) (by omega)
  have HFI := fun w hg => cfin_u f a ha w hg
  rw [decide_eq_true h4] at HFI
  have HFD := fun w hg => cfld_u f a ha w hg
  rw [h0] at HFD
  exact moved_C0 f (loU f) z (kU f) a (frcU f a) 0 0 0 0 fid false false (.bool false) (fun w hg => of_u f hf w hg) HFI (fun w hg => cfrac_u f a ha w hg) (fun w => low_u f hf w) HFD (loU_bd f) hent HUP w hg

set_option maxHeartbeats 1000000 in
theorem uval_pass (f : Int) (a s : Nat) (n b : Bool) (z : Int) (HM : Hid (∀ w, FmtG w → Calls Tryd.prog 79 #[.int .i64 f, .agg #[.int .u64 (dgl (a) 1 : Nat), .int .u64 (dgl (a) 0 : Nat)], .func (.func 80) #[] #[]] w fun e w' => e = .returned (.tuple #[.agg #[.bool (n), .int .i64 (z), .int .u64 (dgl (s) 0 : Nat), .int .u64 (dgl (s) 1 : Nat), .int .u64 (dgl (s) 2 : Nat), .int .u64 (dgl (s) 3 : Nat), .int .u64 (dgl (s) 4 : Nat), .int .u64 (dgl (s) 5 : Nat), .int .u64 (dgl (s) 6 : Nat), .int .u64 (dgl (s) 7 : Nat)], .bool b]) ∧ Below w.heap.size w w')) (w : World) (hg : FmtG w) :
    Calls Tryd.prog 34 #[.int .i64 f, .agg #[.int .u64 (dgl (a) 1 : Nat), .int .u64 (dgl (a) 0 : Nat)]] w fun e w' => e = .returned (.tuple #[.agg #[.bool (n), .int .i64 (z), .int .u64 (dgl (s) 0 : Nat), .int .u64 (dgl (s) 1 : Nat), .int .u64 (dgl (s) 2 : Nat), .int .u64 (dgl (s) 3 : Nat), .int .u64 (dgl (s) 4 : Nat), .int .u64 (dgl (s) 5 : Nat), .int .u64 (dgl (s) 6 : Nat), .int .u64 (dgl (s) 7 : Nat)], .bool b]) ∧ Below w.heap.size w w' := by
  have HS := hide (mv0_start a w hg)
  clear hg
  go_enter Tryd.func34, Tryd.ntmps34
  go_upto_region 1 with fail
  refine wp_gen (fun W => Mv0 a w W) HS.out ?_
  clear HS
  rintro W1 h1
  have HS := hide h1
  have l0 := h1.wa.h
  have l1 := h1.wa.l
  clear h1
  go_wp2_with fail
  refine (HM.out _ HS.out.g).mono ?_
  rintro e w1 ⟨rfl, hb1⟩
  replace HS := hide (HS.out.below hb1)
  clear hb1 l0 l1
  have HB := hide HS.out.bel
  have rn := HS.out.r.n
  have re := HS.out.r.e
  have r0 := HS.out.r.x0
  have r1 := HS.out.r.x1
  have r2 := HS.out.r.x2
  have r3 := HS.out.r.x3
  have r4 := HS.out.r.x4
  have r5 := HS.out.r.x5
  have r6 := HS.out.r.x6
  have r7 := HS.out.r.x7
  have hrf := HS.out.fr
  have hrl := HS.out.r.lt
  clear HS
  go_wp2
  exact bodyPost_ret (v := .tuple #[.agg #[.bool (n), .int .i64 (z), .int .u64 (dgl (s) 0 : Nat), .int .u64 (dgl (s) 1 : Nat), .int .u64 (dgl (s) 2 : Nat), .int .u64 (dgl (s) 3 : Nat), .int .u64 (dgl (s) 4 : Nat), .int .u64 (dgl (s) 5 : Nat), .int .u64 (dgl (s) 6 : Nat), .int .u64 (dgl (s) 7 : Nat)], .bool b]) (by simp [results, Tryd.results34, go_sem, hrl, rn, re, r0, r1, r2, r3, r4, r5, r6, r7]) rfl ⟨rfl, ((((((((((HB.out.setCell (p := ⟨w.heap.size + 1, 0, none⟩) (Nat.le_succ _) _).setCell (p := ⟨w.heap.size + 1, 1, none⟩) (Nat.le_succ _) _).setCell (p := ⟨w.heap.size + 1, 2, none⟩) (Nat.le_succ _) _).setCell (p := ⟨w.heap.size + 1, 3, none⟩) (Nat.le_succ _) _).setCell (p := ⟨w.heap.size + 1, 4, none⟩) (Nat.le_succ _) _).setCell (p := ⟨w.heap.size + 1, 5, none⟩) (Nat.le_succ _) _).setCell (p := ⟨w.heap.size + 1, 6, none⟩) (Nat.le_succ _) _).setCell (p := ⟨w.heap.size + 1, 7, none⟩) (Nat.le_succ _) _).setCell (p := ⟨w.heap.size + 1, 8, none⟩) (Nat.le_succ _) _).setCell (p := ⟨w.heap.size + 1, 9, none⟩) (Nat.le_succ _) _)⟩

set_option maxHeartbeats 1000000 in
theorem uunp_pass (f : Int) (a s : Nat) (n b : Bool) (z : Int) (HM : Hid (∀ w, FmtG w → Calls Tryd.prog 79 #[.int .i64 f, .agg #[.int .u64 (dgl (a) 1 : Nat), .int .u64 (dgl (a) 0 : Nat)], .func (.func 81) #[] #[]] w fun e w' => e = .returned (.tuple #[.agg #[.bool (n), .int .i64 (z), .int .u64 (dgl (s) 0 : Nat), .int .u64 (dgl (s) 1 : Nat), .int .u64 (dgl (s) 2 : Nat), .int .u64 (dgl (s) 3 : Nat), .int .u64 (dgl (s) 4 : Nat), .int .u64 (dgl (s) 5 : Nat), .int .u64 (dgl (s) 6 : Nat), .int .u64 (dgl (s) 7 : Nat)], .bool b]) ∧ Below w.heap.size w w')) (w : World) (hg : FmtG w) :
    Calls Tryd.prog 35 #[.int .i64 f, .agg #[.int .u64 (dgl (a) 1 : Nat), .int .u64 (dgl (a) 0 : Nat)]] w fun e w' => e = .returned (.tuple #[.agg #[.bool (n), .int .i64 (z), .int .u64 (dgl (s) 0 : Nat), .int .u64 (dgl (s) 1 : Nat), .int .u64 (dgl (s) 2 : Nat), .int .u64 (dgl (s) 3 : Nat), .int .u64 (dgl (s) 4 : Nat), .int .u64 (dgl (s) 5 : Nat), .int .u64 (dgl (s) 6 : Nat), .int .u64 (dgl (s) 7 : Nat)], .bool b]) ∧ Below w.heap.size w w' := by
  have HS := hide (mv0_start a w hg)
  clear hg
  go_enter Tryd.func35, Tryd.ntmps35
  go_upto_region 1 with fail
  refine wp_gen (fun W => Mv0 a w W) HS.out ?_
  clear HS
  rintro W1 h1
  have HS := hide h1
  have l0 := h1.wa.h
  have l1 := h1.wa.l
  clear h1
  go_wp2_with fail
  refine (HM.out _ HS.out.g).mono ?_
  rintro e w1 ⟨rfl, hb1⟩
  replace HS := hide (HS.out.below hb1)
  clear hb1 l0 l1
  have HB := hide HS.out.bel
  have rn := HS.out.r.n
  have re := HS.out.r.e
  have r0 := HS.out.r.x0
  have r1 := HS.out.r.x1
  have r2 := HS.out.r.x2
  have r3 := HS.out.r.x3
  have r4 := HS.out.r.x4
  have r5 := HS.out.r.x5
  have r6 := HS.out.r.x6
  have r7 := HS.out.r.x7
  have hrf := HS.out.fr
  have hrl := HS.out.r.lt
  clear HS
  go_wp2
  exact bodyPost_ret (v := .tuple #[.agg #[.bool (n), .int .i64 (z), .int .u64 (dgl (s) 0 : Nat), .int .u64 (dgl (s) 1 : Nat), .int .u64 (dgl (s) 2 : Nat), .int .u64 (dgl (s) 3 : Nat), .int .u64 (dgl (s) 4 : Nat), .int .u64 (dgl (s) 5 : Nat), .int .u64 (dgl (s) 6 : Nat), .int .u64 (dgl (s) 7 : Nat)], .bool b]) (by simp [results, Tryd.results35, go_sem, hrl, rn, re, r0, r1, r2, r3, r4, r5, r6, r7]) rfl ⟨rfl, ((((((((((HB.out.setCell (p := ⟨w.heap.size + 1, 0, none⟩) (Nat.le_succ _) _).setCell (p := ⟨w.heap.size + 1, 1, none⟩) (Nat.le_succ _) _).setCell (p := ⟨w.heap.size + 1, 2, none⟩) (Nat.le_succ _) _).setCell (p := ⟨w.heap.size + 1, 3, none⟩) (Nat.le_succ _) _).setCell (p := ⟨w.heap.size + 1, 4, none⟩) (Nat.le_succ _) _).setCell (p := ⟨w.heap.size + 1, 5, none⟩) (Nat.le_succ _) _).setCell (p := ⟨w.heap.size + 1, 6, none⟩) (Nat.le_succ _) _).setCell (p := ⟨w.heap.size + 1, 7, none⟩) (Nat.le_succ _) _).setCell (p := ⟨w.heap.size + 1, 8, none⟩) (Nat.le_succ _) _).setCell (p := ⟨w.heap.size + 1, 9, none⟩) (Nat.le_succ _) _)⟩

/-- unpack.Value. -/
theorem uval_yes (f : Int) (a : Nat) (ha : a < 2 ^ 128) (h4 : 4 ≤ clsU f a) (w : World) (hg : FmtG w) : Calls Tryd.prog 34 #[.int .i64 f, .agg #[.int .u64 (dgl (a) 1 : Nat), .int .u64 (dgl (a) 0 : Nat)]] w fun e w' => e = .returned (.tuple #[.agg #[.bool (negU f a), .int .i64 (expU f a), .int .u64 (dgl (sigU f a) 0 : Nat), .int .u64 (dgl (sigU f a) 1 : Nat), .int .u64 (dgl (sigU f a) 2 : Nat), .int .u64 (dgl (sigU f a) 3 : Nat), .int .u64 (dgl (sigU f a) 4 : Nat), .int .u64 (dgl (sigU f a) 5 : Nat), .int .u64 (dgl (sigU f a) 6 : Nat), .int .u64 (dgl (sigU f a) 7 : Nat)], .bool true]) ∧ Below w.heap.size w w' := by
  have h := fun w hg => umoved_yes f a ha h4 80 0 (enters_of Tryd.func80 (by kernel_rfl) rfl) (by omega) (fun w => valC1_any _ _ w) w hg
  rw [show expU f a - ((0 : Nat) : Int) = expU f a by omega, Nat.pow_zero, Nat.mul_one] at h
  exact uval_pass f a _ _ _ _ h w hg
theorem uval_no (f : Int) (a : Nat) (ha : a < 2 ^ 128) (h4 : clsU f a < 4) (w : World) (hg : FmtG w) : Calls Tryd.prog 34 #[.int .i64 f, .agg #[.int .u64 (dgl (a) 1 : Nat), .int .u64 (dgl (a) 0 : Nat)]] w fun e w' => e = .returned (.tuple #[.agg #[.bool (false), .int .i64 (0), .int .u64 (dgl (0) 0 : Nat), .int .u64 (dgl (0) 1 : Nat), .int .u64 (dgl (0) 2 : Nat), .int .u64 (dgl (0) 3 : Nat), .int .u64 (dgl (0) 4 : Nat), .int .u64 (dgl (0) 5 : Nat), .int .u64 (dgl (0) 6 : Nat), .int .u64 (dgl (0) 7 : Nat)], .bool false]) ∧ Below w.heap.size w w' :=
  uval_pass f a _ _ _ _ (fun w hg => umoved_no f a ha h4 _ w hg) w hg
/-- How far a word's digits are moved up. -/
def upU (f : Int) (a : Nat) : Nat := prU f - Go.bitLen (sigU f a)
theorem uunp_yes (f : Int) (a : Nat) (ha : a < 2 ^ 128) (h4 : 4 ≤ clsU f a) (h0 : sigU f a ≠ 0) (w : World) (hg : FmtG w) : Calls Tryd.prog 35 #[.int .i64 f, .agg #[.int .u64 (dgl (a) 1 : Nat), .int .u64 (dgl (a) 0 : Nat)]] w fun e w' => e = .returned (.tuple #[.agg #[.bool (negU f a), .int .i64 (expU f a - (upU f a : Nat)), .int .u64 (dgl (sigU f a * 2 ^ upU f a) 0 : Nat), .int .u64 (dgl (sigU f a * 2 ^ upU f a) 1 : Nat), .int .u64 (dgl (sigU f a * 2 ^ upU f a) 2 : Nat), .int .u64 (dgl (sigU f a * 2 ^ upU f a) 3 : Nat), .int .u64 (dgl (sigU f a * 2 ^ upU f a) 4 : Nat), .int .u64 (dgl (sigU f a * 2 ^ upU f a) 5 : Nat), .int .u64 (dgl (sigU f a * 2 ^ upU f a) 6 : Nat), .int .u64 (dgl (sigU f a * 2 ^ upU f a) 7 : Nat)], .bool true]) ∧ Below w.heap.size w w' := by
  have hf : 1 ≤ f ∧ f ≤ 4 := cls_form (a := a) (by omega)
  have hp := prU_bd f hf
  have hl := (len_le (sigU f a) (prU f)).2 (sigU_lt f a hf)
  have hu : (upU f a : Int) = (prU f : Int) - (Go.bitLen (sigU f a) : Int) := by unfold upU; omega
  have h := fun w hg => umoved_yes f a ha h4 81 (upU f a) (enters_of Tryd.func81 (by kernel_rfl) rfl) (by omega) (fun w => unpC1_any (kU f) (sigU f a) _ _ _ (sigU_qq f a hf) rfl (by rw [kU_1 f hf, ← hu, IntKind.wrap_i64]; omega) (by rw [decide_eq_false h0]; rfl) w) w hg
  exact uunp_pass f a _ _ _ _ h w hg
theorem uunp_no (f : Int) (a : Nat) (ha : a < 2 ^ 128) (h4 : clsU f a < 4) (w : World) (hg : FmtG w) : Calls Tryd.prog 35 #[.int .i64 f, .agg #[.int .u64 (dgl (a) 1 : Nat), .int .u64 (dgl (a) 0 : Nat)]] w fun e w' => e = .returned (.tuple #[.agg #[.bool (false), .int .i64 (0), .int .u64 (dgl (0) 0 : Nat), .int .u64 (dgl (0) 1 : Nat), .int .u64 (dgl (0) 2 : Nat), .int .u64 (dgl (0) 3 : Nat), .int .u64 (dgl (0) 4 : Nat), .int .u64 (dgl (0) 5 : Nat), .int .u64 (dgl (0) 6 : Nat), .int .u64 (dgl (0) 7 : Nat)], .bool false]) ∧ Below w.heap.size w w' :=
  uunp_pass f a _ _ _ _ (fun w hg => umoved_no f a ha h4 _ w hg) w hg
theorem uunp_zero (f : Int) (a : Nat) (ha : a < 2 ^ 128) (h4 : 4 ≤ clsU f a) (h0 : sigU f a = 0) (w : World) (hg : FmtG w) : Calls Tryd.prog 35 #[.int .i64 f, .agg #[.int .u64 (dgl (a) 1 : Nat), .int .u64 (dgl (a) 0 : Nat)]] w fun e w' => e = .returned (.tuple #[.agg #[.bool (false), .int .i64 (0), .int .u64 (dgl (0) 0 : Nat), .int .u64 (dgl (0) 1 : Nat), .int .u64 (dgl (0) 2 : Nat), .int .u64 (dgl (0) 3 : Nat), .int .u64 (dgl (0) 4 : Nat), .int .u64 (dgl (0) 5 : Nat), .int .u64 (dgl (0) 6 : Nat), .int .u64 (dgl (0) 7 : Nat)], .bool false]) ∧ Below w.heap.size w w' := by
  have hf0 : fldU f a = 0 := Classical.byContradiction fun hn => by
    unfold sigU at h0
    rw [if_neg hn] at h0
    have := Nat.two_pow_pos (prU f - 1)
    omega
  have e : frcU f a = 0 := by unfold sigU at h0; rw [if_pos hf0] at h0; exact h0
  exact uunp_pass f a _ _ _ _ (fun w hg => umoved_zero f a ha h4 hf0 81 _ (enters_of Tryd.func81 (by kernel_rfl) rfl) (fun w => unpC1_any (kU f) (frcU f a) _ _ _ (by rw [e]; exact Nat.lt_trans (by decide) one_lt_qq) rfl rfl (by rw [decide_eq_true e]; rfl) w) w hg) w hg

end Go.Proofs.YtidfegilddlglaaDoor

/- Contracts: law07.awake; the document's numbers of any length: Of, Size. -/
set_option linter.unusedVariables false
set_option linter.unusedSimpArgs false
set_option maxRecDepth 8000
namespace Go.Proofs.YtidfegilddlglaaDoor
open Go.RowKit Plain

theorem one0_qq : 1025 < QQ := by decide +kernel
theorem one1_qq : 1024 < QQ := by decide +kernel
theorem aw7_val (w : World) (hg : FmtG w) : Calls Tryd.prog 34 #[.int .i64 1, .agg #[.int .u64 0, .int .u64 15361]] w fun e w' => e = .returned (.tuple #[.agg #[.bool false, .int .i64 (-10), .int .u64 1025, .int .u64 0, .int .u64 0, .int .u64 0, .int .u64 0, .int .u64 0, .int .u64 0, .int .u64 0], .bool true]) ∧ Below w.heap.size w w' := by
  have h := uval_yes 1 15361 (by decide) (by decide +kernel) w hg
  rw [show negU 1 15361 = false by decide +kernel, show expU 1 15361 = -10 by decide +kernel, show sigU 1 15361 = 1025 by decide +kernel] at h
  exact h
theorem aw7_unp (w : World) (hg : FmtG w) : Calls Tryd.prog 35 #[.int .i64 1, .agg #[.int .u64 0, .int .u64 1]] w fun e w' => e = .returned (.tuple #[.agg #[.bool false, .int .i64 (-34), .int .u64 1024, .int .u64 0, .int .u64 0, .int .u64 0, .int .u64 0, .int .u64 0, .int .u64 0, .int .u64 0], .bool true]) ∧ Below w.heap.size w w' := by
  have h := uunp_yes 1 1 (by decide) (by decide +kernel) (by decide +kernel) w hg
  rw [show upU 1 1 = 10 by decide +kernel, show negU 1 1 = false by decide +kernel, show expU 1 1 = -24 by decide +kernel, show sigU 1 1 = 1 by decide +kernel] at h
  exact h

set_option maxHeartbeats 1000000 in
theorem awake7_any (w : World) (hg : FmtG w) : Calls Tryd.prog 36 #[] w fun e w' => e = .returned (.bool true) ∧ Below w.heap.size w w' := by
  have hq1 : ∀ w, (Op.equalIn 10000 49 (.agg #[.bool (false), .int .i64 (-10), .int .u64 (dgl (1025) 0 : Nat), .int .u64 (dgl (1025) 1 : Nat), .int .u64 (dgl (1025) 2 : Nat), .int .u64 (dgl (1025) 3 : Nat), .int .u64 (dgl (1025) 4 : Nat), .int .u64 (dgl (1025) 5 : Nat), .int .u64 (dgl (1025) 6 : Nat), .int .u64 (dgl (1025) 7 : Nat)]) (.agg #[.bool false, .int .i64 (-10), .int .u64 1025, .int .u64 0, .int .u64 0, .int .u64 0, .int .u64 0, .int .u64 0, .int .u64 0, .int .u64 0])).run Tryd.prog w = .ok true w := fun w => num_eq false false (-10) (-10) one0_qq one0_qq w
  have hq2 : ∀ w, (Op.equalIn 10000 49 (.agg #[.bool (false), .int .i64 (-34), .int .u64 (dgl (1024) 0 : Nat), .int .u64 (dgl (1024) 1 : Nat), .int .u64 (dgl (1024) 2 : Nat), .int .u64 (dgl (1024) 3 : Nat), .int .u64 (dgl (1024) 4 : Nat), .int .u64 (dgl (1024) 5 : Nat), .int .u64 (dgl (1024) 6 : Nat), .int .u64 (dgl (1024) 7 : Nat)]) (.agg #[.bool false, .int .i64 (-34), .int .u64 1024, .int .u64 0, .int .u64 0, .int .u64 0, .int .u64 0, .int .u64 0, .int .u64 0, .int .u64 0])).run Tryd.prog w = .ok true w := fun w => num_eq false false (-34) (-34) one1_qq one1_qq w
  have H1 := hide (fun w hg => aw7_val w hg)
  have H2 := hide (fun w hg => aw7_unp w hg)
  have HG := hide hg
  clear hg
  go_enter Tryd.func36, Tryd.ntmps36
  go_wp2_with fail
  refine (H1.out _ HG.out).mono ?_
  rintro e w1 ⟨rfl, hb1⟩
  have HG1 := hide ((HG.out.below hb1).below (below_allocs _ (.cells #[.bool false, .int .i64 (-10), .int .u64 1025, .int .u64 0, .int .u64 0, .int .u64 0, .int .u64 0, .int .u64 0, .int .u64 0, .int .u64 0] 49)))
  have HN1 := hide (show NB _ _ false (-10) 1025 from nb_new w1 false (-10) 1025 49)
  have HB := hide (below_trans hb1 (below_allocs _ (.cells #[.bool false, .int .i64 (-10), .int .u64 1025, .int .u64 0, .int .u64 0, .int .u64 0, .int .u64 0, .int .u64 0, .int .u64 0, .int .u64 0] 49)))
  clear hb1 HG
  go_upto_region 2 with fail
  refine wp_gen (fun W => FmtG W ∧ NB W w1.heap.size false (-10) 1025 ∧ Below w.heap.size w W) ⟨HG1.out, HN1.out, HB.out⟩ ?_
  clear HG1 HN1 HB
  generalize w1.heap.size = p1
  rintro W1 ⟨g1, g2, g3⟩
  have HG := hide g1
  have HN := hide g2
  have HB := hide g3
  clear g1 g2 g3
  go_wp2_with fail
  refine (H2.out _ HG.out).mono ?_
  rintro e w2 ⟨rfl, hb2⟩
  replace HN := hide (HN.out.below hb2)
  replace HB := hide (below_trans HB.out hb2)
  clear hb2 HG
  go_upto_region 3 with fail
  refine wp_gen (fun W => NB W p1 false (-10) 1025 ∧ NB W w2.heap.size false (-34) 1024 ∧ Below w.heap.size w W) ⟨HN.out.below (below_allocs _ _), (show NB _ _ false (-34) 1024 from nb_new w2 false (-34) 1024 49), below_trans HB.out (below_allocs _ _)⟩ ?_
  clear HN HB
  generalize w2.heap.size = p2
  rintro W2 ⟨g1, g2, g3⟩
  have ln := g1.n
  have le := g1.e
  have l0 := g1.x0
  have l1 := g1.x1
  have l2 := g1.x2
  have l3 := g1.x3
  have l4 := g1.x4
  have l5 := g1.x5
  have l6 := g1.x6
  have l7 := g1.x7
  have mn := g2.n
  have me := g2.e
  have m0 := g2.x0
  have m1 := g2.x1
  have m2 := g2.x2
  have m3 := g2.x3
  have m4 := g2.x4
  have m5 := g2.x5
  have m6 := g2.x6
  have m7 := g2.x7
  have HB := hide g3
  clear g1 g2 g3
  go_wp2
  go_ret
  exact ⟨rfl, HB.out⟩

/-- A number of any length. -/
def NumV (W : World) (u : Value) (neg : Bool) (z : Int) (s K : Nat) : Prop := ∃ v, u = .agg #[.bool neg, v, .int .i64 z] ∧ BigV W v s K
theorem NumV.below {W W' : World} {u : Value} {neg : Bool} {z : Int} {s K : Nat} (h : NumV W u neg z s K) (hb : Below W.heap.size W W') : NumV W' u neg z s K := by
  obtain ⟨v, h1, h2⟩ := h
  exact ⟨v, h1, h2.below hb⟩
def SlotIs.num (neg : Bool) (z : Int) (s K : Nat) : SlotIs := ⟨fun v w => NumV w v neg z s K, fun v w w' hb h => h.below hb⟩

/-- A number of any length stays, if the three cells of a record are stored. -/
theorem BigV.set3 {W : World} {v : Value} {s K R : Nat} {b0 : Bool} {ao : Option Addr} {c0 c1 : Nat} {z0 : Int} (h : BigV W v s K) (h0 : W.cell? ⟨R, 0, none⟩ = some (.bool b0)) (h1 : W.cell? ⟨R, 1, none⟩ = some (.slice ao c0 c1)) (h2 : W.cell? ⟨R, 2, none⟩ = some (.int .i64 z0))
    (hn : ∀ i, 3 ≤ i → W.cell? ⟨R, i, none⟩ = none) (x0 x1 x2 : Value) : BigV (((W.setCell ⟨R, 0, none⟩ x0).setCell ⟨R, 1, none⟩ x1).setCell ⟨R, 2, none⟩ x2) v s K := by
  obtain ⟨l, ⟨ao, cap, rfl, hc, hm, hr⟩, hrest⟩ := h
  refine ⟨l, ⟨ao, cap, rfl, hc, hm, ?_⟩, hrest⟩
  rcases hr with hr | ⟨b, off, rfl, hlt, hcell⟩
  · exact .inl hr
  · rcases Nat.eq_zero_or_pos l.length with hz | hz
    · exact .inl hz
    · refine .inr ⟨b, off, rfl, by simpa [go_sem] using hlt, fun i hi => ?_⟩
      have hne : ¬ b = R := fun e => by
        subst e
        have h3 := hcell 0 hz
        rw [Nat.add_zero] at h3
        rcases Nat.lt_or_ge off 3 with ho | ho
        · match off, ho with
          | 0, _ => rw [h0] at h3; cases h3
          | 1, _ => rw [h1] at h3; cases h3
          | 2, _ => rw [h2] at h3; cases h3
        · rw [hn off ho] at h3; cases h3
      have := hcell i hi
      simp [go_sem, this, hne]

structure OfSt (neg : Bool) (z : Int) (s : Nat) (w W : World) : Prop where
  n : NB W w.heap.size neg z s
  fr : ∀ i, W.frozen? ⟨w.heap.size + 1, i, none⟩ = false
  r0 : W.cell? ⟨w.heap.size + 1, 0, none⟩ = some (.bool false)
  r1 : W.cell? ⟨w.heap.size + 1, 1, none⟩ = some (.slice none 0 0)
  r2 : W.cell? ⟨w.heap.size + 1, 2, none⟩ = some (.int .i64 0)
  no : ∀ i, 3 ≤ i → W.cell? ⟨w.heap.size + 1, i, none⟩ = none
  lt : w.heap.size + 1 < W.heap.size
  bel : Below w.heap.size w W
theorem OfSt.below {neg : Bool} {z : Int} {s : Nat} {w W W' : World} (h : OfSt neg z s w W) (hb : Below W.heap.size W W') : OfSt neg z s w W' :=
  ⟨h.n.below hb, fun i => (hb.frozen (p := ⟨w.heap.size + 1, i, none⟩) h.lt).trans (h.fr i), (hb.cell (p := ⟨w.heap.size + 1, 0, none⟩) h.lt).trans h.r0, (hb.cell (p := ⟨w.heap.size + 1, 1, none⟩) h.lt).trans h.r1, (hb.cell (p := ⟨w.heap.size + 1, 2, none⟩) h.lt).trans h.r2, fun i hi => (hb.cell (p := ⟨w.heap.size + 1, i, none⟩) h.lt).trans (h.no i hi), Nat.lt_of_lt_of_le h.lt hb.size, below_trans h.bel hb⟩
theorem ofSt_start (neg : Bool) (z : Int) (s : Nat) (w : World) : OfSt neg z s w ((w.alloc (.cells #[.bool (neg), .int .i64 (z), .int .u64 (dgl (s) 0 : Nat), .int .u64 (dgl (s) 1 : Nat), .int .u64 (dgl (s) 2 : Nat), .int .u64 (dgl (s) 3 : Nat), .int .u64 (dgl (s) 4 : Nat), .int .u64 (dgl (s) 5 : Nat), .int .u64 (dgl (s) 6 : Nat), .int .u64 (dgl (s) 7 : Nat)] 49)).alloc (.cells #[.bool false, .slice none 0 0, .int .i64 0] 56)) :=
  ⟨(nb_new w neg z s 49).below (below_allocs _ _), fun i => by simp [go_sem], by simp [go_sem], by simp [go_sem], by simp [go_sem], fun i hi => by simp [go_sem]; omega, by simp, below_trans (below_allocs _ _) (below_allocs _ _)⟩
set_option maxHeartbeats 1000000 in
theorem refOf7_any (neg : Bool) (z : Int) (s : Nat) (hs : s < QQ) (w : World) : Calls Tryd.prog 40 #[.agg #[.bool (neg), .int .i64 (z), .int .u64 (dgl (s) 0 : Nat), .int .u64 (dgl (s) 1 : Nat), .int .u64 (dgl (s) 2 : Nat), .int .u64 (dgl (s) 3 : Nat), .int .u64 (dgl (s) 4 : Nat), .int .u64 (dgl (s) 5 : Nat), .int .u64 (dgl (s) 6 : Nat), .int .u64 (dgl (s) 7 : Nat)]] w fun e w' => ∃ v, e = .returned v ∧ NumV w' v neg z s 40 ∧ Below w.heap.size w w' := by
  have HST := hide (ofSt_start neg z s w)
  have HBG := hide (fun w => refBig_any s hs w)
  clear hs
  go_enter Tryd.func40, Tryd.ntmps40
  go_upto_region 1 with fail
  refine wp_gen (fun W => OfSt neg z s w W) HST.out ?_
  clear HST
  rintro W1 h1
  refine wp_region_grow 8 [(3, .val (.pointer (some ⟨w.heap.size, 0, none⟩))), (4, .val (.bool neg)), (5, .val (.pointer (some ⟨w.heap.size, 2, none⟩))), (6, .val (.agg #[.int .u64 (dgl (s) 0 : Nat), .int .u64 (dgl (s) 1 : Nat), .int .u64 (dgl (s) 2 : Nat), .int .u64 (dgl (s) 3 : Nat), .int .u64 (dgl (s) 4 : Nat), .int .u64 (dgl (s) 5 : Nat), .int .u64 (dgl (s) 6 : Nat), .int .u64 (dgl (s) 7 : Nat)])), (7, .big s 40), (8, .val (.pointer (some ⟨w.heap.size, 1, none⟩))), (9, .val (.int .i64 z)), (10, .num neg z s 40)]
    (fun W => OfSt neg z s w W) mixedOk (by kernel_rfl) (by kernel_rfl) (h1.below (Below.refl _ _).drew) (fun W W' h hb => h.below hb) ?_ ?_
  · refine gSt (gStep_run rfl ?_) ?_
    · intro ρ W hC hc hf hL
      have e1 : ρ (.tmp 1) = .pointer (some ⟨w.heap.size, 0, none⟩) := hL 1 (by decide +kernel)
      simp [go_sem, hc, hf, e1]
      exact ⟨Below.refl _ _, rfl⟩
    refine gSt (gStep_run rfl ?_) ?_
    · intro ρ W hC hc hf hL
      have e3 : ρ (.tmp 3) = .pointer (some ⟨w.heap.size, 0, none⟩) := hL 3 (by decide +kernel)
      have l0 := hC.n.n
      simp [go_sem, hc, hf, e3, l0]
      exact ⟨Below.refl _ _, rfl⟩
    refine gSt (gStep_run rfl ?_) ?_
    · intro ρ W hC hc hf hL
      have e1 : ρ (.tmp 1) = .pointer (some ⟨w.heap.size, 0, none⟩) := hL 1 (by decide +kernel)
      simp [go_sem, hc, hf, e1]
      exact ⟨Below.refl _ _, rfl⟩
    refine gSt (gStep_run rfl ?_) ?_
    · intro ρ W hC hc hf hL
      have e5 : ρ (.tmp 5) = .pointer (some ⟨w.heap.size, 2, none⟩) := hL 5 (by decide +kernel)
      have l0 := hC.n.x0
      have l1 := hC.n.x1
      have l2 := hC.n.x2
      have l3 := hC.n.x3
      have l4 := hC.n.x4
      have l5 := hC.n.x5
      have l6 := hC.n.x6
      have l7 := hC.n.x7
      simp [go_sem, hc, hf, e5, l0, l1, l2, l3, l4, l5, l6, l7]
      exact ⟨Below.refl _ _, rfl⟩
    refine gSt (gStep_run rfl ?_) ?_
    · intro ρ W hC hc hf hL
      have e6 : ρ (.tmp 6) = .agg #[.int .u64 (dgl (s) 0 : Nat), .int .u64 (dgl (s) 1 : Nat), .int .u64 (dgl (s) 2 : Nat), .int .u64 (dgl (s) 3 : Nat), .int .u64 (dgl (s) 4 : Nat), .int .u64 (dgl (s) 5 : Nat), .int .u64 (dgl (s) 6 : Nat), .int .u64 (dgl (s) 7 : Nat)] := hL 6 (by decide +kernel)
      simp [go_sem, hc, hf, e6]
      refine (HBG.out W).mono ?_
      rintro e w' ⟨v, rfl, hv, hb⟩
      exact ⟨_, rfl, hb, hv⟩
    refine gSt (gStep_run rfl ?_) ?_
    · intro ρ W hC hc hf hL
      have e1 : ρ (.tmp 1) = .pointer (some ⟨w.heap.size, 0, none⟩) := hL 1 (by decide +kernel)
      simp [go_sem, hc, hf, e1]
      exact ⟨Below.refl _ _, rfl⟩
    refine gSt (gStep_run rfl ?_) ?_
    · intro ρ W hC hc hf hL
      have e8 : ρ (.tmp 8) = .pointer (some ⟨w.heap.size, 1, none⟩) := hL 8 (by decide +kernel)
      have l0 := hC.n.e
      simp [go_sem, hc, hf, e8, l0]
      exact ⟨Below.refl _ _, rfl⟩
    refine gSt (gStep_run rfl ?_) ?_
    · intro ρ W hC hc hf hL
      have e4 : ρ (.tmp 4) = .bool neg := hL 4 (by decide +kernel)
      have b7 : BigV W (ρ (.tmp 7)) (s) (40) := hL 7 (by decide +kernel)
      have e9 : ρ (.tmp 9) = .int .i64 z := hL 9 (by decide +kernel)
      obtain ⟨l7, ⟨ao7, ca7, e7, r7⟩, rest7⟩ := b7
      have b7 : BigV W (.slice ao7 l7.length ca7) s 40 := ⟨l7, ⟨ao7, ca7, rfl, r7⟩, rest7⟩
      simp [go_sem, hc, hf, e4, e9, e7]
      exact ⟨Below.refl _ _, _, rfl, b7⟩
    exact gSt0
  · intro W hC
    refine gFi 3 rfl ?_
    rintro _ rfl
    refine gFi 4 rfl ?_
    rintro _ rfl
    refine gFi 5 rfl ?_
    rintro _ rfl
    refine gFi 6 rfl ?_
    rintro _ rfl
    refine gFi 7 rfl ?_
    rintro u7 b7
    refine gFi 8 rfl ?_
    rintro _ rfl
    refine gFi 9 rfl ?_
    rintro _ rfl
    refine gFi 10 rfl ?_
    rintro u10 b10
    refine gFi0 ?_
    simp only [List.drop_succ_cons, List.drop_zero, Act.put, List.setIfInBounds_toArray, List.set_cons_succ, List.set_cons_zero]
    obtain ⟨v10, rfl, hv10⟩ := b10
    have hv11 := hv10
    obtain ⟨l10, ⟨ao10, ca10, rfl, -⟩, -⟩ := hv11
    have HV := hide hv10
    have HNO := hide hC.no
    have HB := hide hC.bel
    have r0 := hC.r0
    have r1 := hC.r1
    have r2 := hC.r2
    have hrf := hC.fr
    have hlt := hC.lt
    clear hC h1 b7 hv10
    go_wp2
    exact bodyPost_ret (v := .agg #[.bool neg, .slice ao10 l10.length ca10, .int .i64 z]) (by simp [results, Tryd.results40, go_sem, hlt, r0, r1, r2]) rfl ⟨_, rfl, ⟨_, rfl, HV.out.set3 r0 r1 r2 HNO.out _ _ _⟩, ((HB.out.setCell (p := ⟨w.heap.size + 1, 0, none⟩) (Nat.le_succ _) _).setCell (p := ⟨w.heap.size + 1, 1, none⟩) (Nat.le_succ _) _).setCell (p := ⟨w.heap.size + 1, 2, none⟩) (Nat.le_succ _) _⟩

end Go.Proofs.YtidfegilddlglaaDoor

