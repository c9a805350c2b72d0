/- Contracts and laws: CntA, NanC, NanD, NanE. -/
import Derived.Test.YtpcjdllijkjdkaaDoorPartAT
import Derived.Deep.Slices
import Derived.Test.YtpcjdllijkjdkaaDoorPartAZ
import Derived.Test.YtpcjdllijkjdkaaDoorPartAX
import Derived.Test.YtpcjdllijkjdkaaDoorPartAY
/- Contracts: class.Count; slices of words; arrays of seven ints. -/
set_option linter.unusedVariables false
set_option linter.unusedSimpArgs false
set_option maxRecDepth 8000
namespace Go.Proofs.YtpcjdllijkjdkaaDoor
open Go.ChangeShapes Go.WideShapes Go.ChangeAt Go.RowKit Go.Deep Plain

/-- A slice of words. -/
def RdD (w : World) (v : Value) (l : List Nat) : Prop :=
  ∃ ao cap, v = .slice ao l.length cap ∧ l.length ≤ cap ∧ cap ≤ maxLen ∧
    (l.length = 0 ∨ ∃ b off, ao = some ⟨b, off, none⟩ ∧ b < w.heap.size ∧ ∀ i, i < l.length → w.cell? ⟨b, off + i * 2, none⟩ = some (.int .u64 (dgl (dg l i) 1 : Nat)) ∧ w.cell? ⟨b, off + i * 2 + 1, none⟩ = some (.int .u64 (dgl (dg l i) 0 : Nat)))
theorem RdD.below {w w' : World} {v : Value} {l : List Nat} (h : RdD w v l) (hb : Below w.heap.size w w') : RdD w' v l := by
  obtain ⟨ao, cap, rfl, hc, hm, h⟩ := h
  refine ⟨ao, cap, rfl, hc, hm, ?_⟩
  rcases h with h | ⟨b, off, rfl, hlt, hcell⟩
  · exact .inl h
  · exact .inr ⟨b, off, rfl, Nat.lt_of_lt_of_le hlt hb.size, fun i hi => ⟨(hb.cell (p := ⟨b, off + i * 2, none⟩) hlt).trans (hcell i hi).1, (hb.cell (p := ⟨b, off + i * 2 + 1, none⟩) hlt).trans (hcell i hi).2⟩⟩

theorem word_cells {H : Type} {enc : TypeId × Value → H} {W : World} {base n : Nat} {sp : Nat → Bool} {held : Bool} {cs : List Value} {q : DataW H × List MemPlace}
    (hlen : cs.length = 2) (h : DataW.trod enc Tryd.prog W base sp held n 28 cs = some q) : ∃ x y : Nat, x < 18446744073709551616 ∧ y < 18446744073709551616 ∧ cs = [.int .u64 (x : Nat), .int .u64 (y : Nat)] := by
  obtain ⟨y0, y1, m, hx, _, h0, h1⟩ := trod_struct2 Tryd.underlying28 h
  obtain ⟨a0, e0, _, wa0⟩ := DataW.trod_int Tryd.underlying22 h0
  obtain ⟨a1, e1, _, wa1⟩ := DataW.trod_int Tryd.underlying22 h1
  obtain ⟨x, rfl, hx⟩ := u64_nat wa0
  obtain ⟨y, rfl, hy⟩ := u64_nat wa1
  have hc : Tryd.prog.cellsOf 22 = 1 := by kernel_rfl
  match cs, hlen with
  | [c0, c1], _ =>
    simp [hc] at e0 e1
    subst e0 e1
    exact ⟨x, y, hx, hy, rfl⟩

theorem words_of_trod {H : Type} {enc : TypeId × Value → H} {W : World} {r : Reach} {b0 base : Nat} {sp : Nat → Bool} {held : Bool} {v : Value} {d : DataW H} {ps : List MemPlace}
    (hval : Value.okWide Tryd.prog W r b0 70 v) (hd : DataW.Trod enc Tryd.prog W base sp held 70 v d ps) : ∃ l, RdD W v l ∧ ∀ i, dg l i < 2 ^ 128 := by
  obtain ⟨a0, len0, cap0, rfl⟩ := okWide_slice Tryd.underlying70 hval
  have hc : Tryd.prog.cellsOf 28 = 2 := by kernel_rfl
  obtain ⟨fuel, hf⟩ := hd
  rcases open_slice Tryd.underlying70 hf with ⟨hcs, _⟩ | ⟨a, len, cap, m, n, D, Pl, hcs, hb, hl, hm, hmm, _, hget⟩
  · simp [Value.cells] at hcs
    obtain ⟨rfl, rfl, rfl⟩ := hcs
    exact ⟨[], ⟨none, 0, rfl, Nat.le_refl _, by simp [maxLen], .inl rfl⟩, fun i => by rw [getD_past _ _ (by simp)]; decide⟩
  · simp [Value.cells] at hcs
    obtain ⟨rfl, rfl, rfl⟩ := hcs
    have hlm : len0 ≤ m := by rw [hmm]; split <;> omega
    rw [hc] at hget
    have hel : ∀ i, i < len0 → ∃ x, x < 2 ^ 128 ∧ W.cell? (a.add (i * 2)) = some (.int .u64 (dgl x 1 : Nat)) ∧ W.cell? ((a.add (i * 2)).add 1) = some (.int .u64 (dgl x 0 : Nat)) := by
      intro i hi
      obtain ⟨cs', h1, h2⟩ := hget i (by omega)
      obtain ⟨_, hlen, hcell⟩ := World.cells?_some h1
      obtain ⟨x, y, hx, hy, e⟩ := word_cells hlen h2
      have e2 := word_num x y hx hy
      refine ⟨y + 18446744073709551616 * x, by omega, ?_, ?_⟩
      · have := hcell 0 (by decide)
        rw [e] at this
        rw [e2.1]
        simpa [Go.WideShapes.add_plain, Addr.add] using this
      · have := hcell 1 (by decide)
        rw [e] at this
        rw [e2.2]
        simpa using this
    have hch : ∃ f : Nat → Nat, ∀ i, i < len0 → f i < 2 ^ 128 ∧ W.cell? (a.add (i * 2)) = some (.int .u64 (dgl (f i) 1 : Nat)) ∧ W.cell? ((a.add (i * 2)).add 1) = some (.int .u64 (dgl (f i) 0 : Nat)) :=
      ⟨fun i => if hi : i < len0 then Classical.choose (hel i hi) else 0, fun i hi => by simp only [dif_pos hi]; exact Classical.choose_spec (hel i hi)⟩
    obtain ⟨f, hfx⟩ := hch
    refine ⟨(List.range len0).map f, ⟨some a, cap0, by simp, by simpa using hl, hm, ?_⟩, fun i => ?_⟩
    · by_cases h0 : len0 = 0
      · exact .inl (by simp [h0])
      · obtain ⟨b, off, spot⟩ := a
        have hspot : spot = none := by simpa [Addr.add] using World.cell?_spot (hfx 0 (by omega)).2.1
        subst hspot
        have h00 := (hfx 0 (by omega)).2.1
        refine .inr ⟨b, off, rfl, ?_, fun i hi => ?_⟩
        · have := World.block_lt_of_cell? W _ h00
          simpa [Addr.add] using this
        · have hi2 : i < len0 := by simpa using hi
          have := (hfx i hi2).2
          have e : dg ((List.range len0).map f) i = f i := by simp [dg, hi2]
          rw [e]
          rw [Go.WideShapes.add_plain, Go.WideShapes.add_plain] at this
          exact this
    · rcases Nat.lt_or_ge i len0 with hi | hi
      · have e : dg ((List.range len0).map f) i = f i := by simp [dg, hi]
        rw [e]; exact (hfx i hi).1
      · rw [getD_past _ _ (by simpa using hi)]; decide

end Go.Proofs.YtpcjdllijkjdkaaDoor

/- Contracts: the document's Quieted; nan.None, Of and what it hands on; slices.IndexFunc, ContainsFunc over words. -/
set_option linter.unusedVariables false
set_option linter.unusedSimpArgs false
set_option maxRecDepth 8000
namespace Go.Proofs.YtpcjdllijkjdkaaDoor
open Go.RowKit Plain

/-- The bit that quiets a word doesn't carry. -/
theorem qui_bit {f : Int} {a : Nat} (h : clsU f a = 1) : (prU f - 2 < 64 → dgl (quU f a) 0 = dgl a 0 + 2 ^ (prU f - 2) ∧ dgl (quU f a) 1 = dgl a 1) ∧ (¬ prU f - 2 < 64 → dgl (quU f a) 1 = dgl a 1 + 2 ^ (prU f - 2 - 64) ∧ dgl (quU f a) 0 = dgl a 0) := by
  obtain ⟨hf, n1, n2, n3⟩ := nan_U (.inl h)
  have hl : frcU f a < qb f := by
    rcases Nat.lt_or_ge (frcU f a) (qb f) with h1 | h1
    · exact h1
    · exact absurd (n3.2 h1) (by omega)
  have hq : quU f a = a + qb f := if_pos h
  have hlt := (quU_cls (.inl h)).1
  have hp := qb_pow f hf
  have ho := own_u (f := f) (a := a) (by omega)
  rw [n1] at ho
  rw [hq] at hlt ⊢
  refine ⟨fun h6 => ?_, fun h6 => ?_⟩
  · rw [dgl0, dgl0, dgl1, dgl1]
    rcases f_cases f with rfl | rfl | rfl | rfl | h0
    · have e1 : a < 2 ^ 16 := cls_fit (B := 16) (P := 11) (F := 5) (by have : clsN 16 11 5 a = 1 := h; omega)
      have e2 : frcU 1 a = a % 1024 := if_pos e1
      have e3 : qb 1 = 512 := rfl
      rw [show (2 : Nat) ^ (prU 1 - 2) = 512 from rfl, e3]
      rw [e2, e3] at hl
      omega
    · have e1 : a < 2 ^ 32 := cls_fit (B := 32) (P := 24) (F := 8) (by have : clsN 32 24 8 a = 1 := h; omega)
      have e2 : frcU 2 a = a % 8388608 := if_pos e1
      have e3 : qb 2 = 4194304 := rfl
      rw [show (2 : Nat) ^ (prU 2 - 2) = 4194304 from rfl, e3]
      rw [e2, e3] at hl
      omega
    · have e1 : a < 2 ^ 64 := cls_fit (B := 64) (P := 53) (F := 11) (by have : clsN 64 53 11 a = 1 := h; omega)
      have e2 : frcU 3 a = a % 4503599627370496 := if_pos e1
      have e3 : qb 3 = 2251799813685248 := rfl
      rw [show (2 : Nat) ^ (prU 3 - 2) = 2251799813685248 from rfl, e3]
      rw [e2, e3] at hl
      omega
    · exact absurd h6 (by decide)
    · omega
  · have h7 := bitW_high (c := prU f - 2) (x := a) h6 (by rw [← hp]; exact hlt)
    rw [← hp] at h7
    exact h7
structure RqSt (x : Nat) (w W : World) : Prop where
  wa : WB W (w.heap.size) (dgl x 1) (dgl x 0)
  wf : ∀ i, W.frozen? ⟨w.heap.size, i, none⟩ = false
  r : WB W (w.heap.size + 1) (0) (0)
  fr : ∀ i, W.frozen? ⟨w.heap.size + 1, i, none⟩ = false
  lt : w.heap.size + 1 < W.heap.size
  bel : Below w.heap.size w W
theorem RqSt.under {x : Nat} {w W W' : World} (h : RqSt x w W) {C : Nat} (hb : Below C W W') (hc : w.heap.size + 1 < C) : RqSt x w W' :=
  ⟨h.wa.under hb (show w.heap.size < C by omega), fun i => (hb.frozen (p := ⟨w.heap.size, i, none⟩) (show w.heap.size < C by omega)).trans (h.wf i), h.r.under hb (show w.heap.size + 1 < C by omega), fun i => (hb.frozen (p := ⟨w.heap.size + 1, i, none⟩) (show w.heap.size + 1 < C by omega)).trans (h.fr i), Nat.lt_of_lt_of_le h.lt hb.size, h.bel.trans (hb.mono (by omega))⟩
theorem RqSt.below {x : Nat} {w W W' : World} (h : RqSt x w W) (hb : Below W.heap.size W W') : RqSt x w W' := h.under hb h.lt
theorem rqSt_start (a : Nat) (w : World) : RqSt a w ((w.alloc (.cells #[.int .u64 (dgl (a) 1 : Nat), .int .u64 (dgl (a) 0 : Nat)] 28)).alloc (.cells #[.int .u64 0, .int .u64 0] 28)) :=
  ⟨⟨by simp [go_sem], by simp [go_sem], by simp; omega⟩, fun i => by simp [go_sem], ⟨by simp [go_sem], by simp [go_sem], by simp⟩, fun i => by simp [go_sem], by simp, below_trans (below_allocs _ _) (below_allocs _ _)⟩

set_option maxHeartbeats 2000000 in
theorem rquiet_N (f : Int) (a b cl P k e : Nat)
    (HCL : Hid (∀ w, Calls Tryd.prog 31 #[.int .i64 f, .agg #[.int .u64 (dgl (a) 1 : Nat), .int .u64 (dgl (a) 0 : Nat)]] w fun e w' => e = .returned (.int .i64 (cl : Nat)) ∧ Below w.heap.size w w'))
    (hcl : ((cl : Int) != 1) = true) (w : World) :
    Calls Tryd.prog 43 #[.int .i64 f, .agg #[.int .u64 (dgl (a) 1 : Nat), .int .u64 (dgl (a) 0 : Nat)]] w fun e w' => e = .returned (.agg #[.int .u64 (dgl (a) 1 : Nat), .int .u64 (dgl (a) 0 : Nat)]) ∧ Below w.heap.size w w' := by
  have HS := hide (rqSt_start a w)
  go_enter Tryd.func43, Tryd.ntmps43
  go_upto_region 1 with fail
  refine wp_gen (fun W => RqSt a w W) HS.out ?_
  clear HS
  rintro W1 h1
  have HS := hide h1
  clear h1
  have lh := HS.out.wa.h
  have ll := HS.out.wa.l
  go_wp2_with fail
  refine (HCL.out _).mono ?_
  rintro e_ w1 ⟨rfl, hb1⟩
  replace HS := hide (HS.out.below hb1)
  clear hb1 lh ll
  have lh := HS.out.wa.h
  have ll := HS.out.wa.l
  have rh := HS.out.r.h
  have rl := HS.out.r.l
  have hrf := HS.out.fr
  have hlt := HS.out.lt
  have HB := hide HS.out.bel
  clear HS
  go_wp2
  exact bodyPost_ret (v := .agg #[.int .u64 (dgl (a) 1 : Nat), .int .u64 (dgl (a) 0 : Nat)]) (by simp [results, Tryd.results43, go_sem, hlt, rh, rl]) rfl ⟨rfl, (HB.out.setCell (p := ⟨w.heap.size + 1, 0, none⟩) (Nat.le_succ _) _).setCell (p := ⟨w.heap.size + 1, 1, none⟩) (Nat.le_succ _) _⟩

set_option maxHeartbeats 2000000 in
theorem rquiet_H (f : Int) (a b cl P k e : Nat)
    (HCL : Hid (∀ w, Calls Tryd.prog 31 #[.int .i64 f, .agg #[.int .u64 (dgl (a) 1 : Nat), .int .u64 (dgl (a) 0 : Nat)]] w fun e w' => e = .returned (.int .i64 (cl : Nat)) ∧ Below w.heap.size w w'))
    (hcl : ((cl : Int) != 1) = false)
    (HPR : Hid (∀ w, Calls Tryd.prog 34 #[.int .i64 f] w fun e w' => e = .returned (.int .i64 (P : Nat)) ∧ w' = w))
    (hP : P ≤ 200) (HK : Hid ((P : Int) - 2 = (k : Int)))
    (HE : Hid (k = e + 64)) (he6 : e < 64)
    (HAD : Hid (dgl b 1 = dgl a 1 + 2 ^ e)) (HOT : Hid (dgl b 0 = dgl a 0)) (w : World) :
    Calls Tryd.prog 43 #[.int .i64 f, .agg #[.int .u64 (dgl (a) 1 : Nat), .int .u64 (dgl (a) 0 : Nat)]] w fun e w' => e = .returned (.agg #[.int .u64 (dgl (b) 1 : Nat), .int .u64 (dgl (b) 0 : Nat)]) ∧ Below w.heap.size w w' := by
  have HS := hide (rqSt_start a w)
  replace HAD := hide (add_bit (a := dgl a 1) (e := e) (b := dgl b 1) he6 HAD.out (dgl_lt _ _))
  have HSH := hide (shl_wrap7 (e := e) he6)
  go_enter Tryd.func43, Tryd.ntmps43
  go_upto_region 1 with fail
  refine wp_gen (fun W => RqSt a w W) HS.out ?_
  clear HS
  rintro W1 h1
  have HS := hide h1
  clear h1
  have lh := HS.out.wa.h
  have ll := HS.out.wa.l
  go_wp2_with fail
  refine (HCL.out _).mono ?_
  rintro e_ w1 ⟨rfl, hb1⟩
  replace HS := hide (HS.out.below hb1)
  clear hb1 lh ll
  go_wp2_with fail
  refine (HPR.out _).mono ?_
  rintro e_ wl ⟨rfl, hw⟩
  subst wl
  have hw2 : IntKind.i64.wrap ((P : Int) - 2) = (k : Int) := by rw [IntKind.wrap_i64]; have := HK.out; omega
  have h64 : (64 : Int) ≤ (k : Int) := by have := HE.out; omega
  go_upto_region 5 with fail
  refine wp_gen (fun W => RqSt a w W) HS.out ?_
  clear HS hw2 h64
  rintro W3 h3
  refine wp_region_grow 7 [(16, .val (.pointer (some ⟨w.heap.size, 0, none⟩))), (17, .val (.int .u64 (dgl a 1 : Nat))), (18, .val (.int .i64 (k : Int))), (19, .val (.int .i64 ((e : Nat) : Int))), (20, .val (.int .u64 ((2 : Int) ^ e))), (21, .val (.int .u64 (dgl b 1 : Nat))), (22, .val (.pointer (some ⟨w.heap.size, 0, none⟩)))]
    (fun W => RqSt a w W) mixedOk (by kernel_rfl) (by kernel_rfl) (h3.below (Below.refl _ _).drew) (fun W W' h hb => h.below hb) ?_ ?_
  · refine gSt (gStep_run rfl ?_) ?_
    · intro ρ W hC hc hf hL
      have e3 : ρ (.tmp 3) = .pointer (some ⟨w.heap.size, 0, none⟩) := hL 3 (by decide +kernel)
      simp [go_sem, hc, hf, e3]
      exact ⟨Below.refl _ _, rfl⟩
    refine gSt (gStep_run rfl ?_) ?_
    · intro ρ W hC hc hf hL
      have e16 : ρ (.tmp 16) = .pointer (some ⟨w.heap.size, 0, none⟩) := hL 16 (by decide +kernel)
      have l0 := hC.wa.h
      simp [go_sem, hc, hf, e16, l0]
      exact ⟨Below.refl _ _, rfl⟩
    refine gSt (gStep_run rfl (gRun_move 5 18 (.inl rfl) rfl (by decide +kernel) (fun v w h => h))) ?_
    refine gSt (gStep_run rfl ?_) ?_
    · intro ρ W hC hc hf hL
      have e18 : ρ (.tmp 18) = .int .i64 (k : Int) := hL 18 (by decide +kernel)
      have l0 : IntKind.i64.wrap ((k : Int) - 64) = (e : Int) := by rw [IntKind.wrap_i64]; have := HE.out; omega
      simp [go_sem, hc, hf, e18, l0]
      exact ⟨Below.refl _ _, rfl⟩
    refine gSt (gStep_run rfl ?_) ?_
    · intro ρ W hC hc hf hL
      have e19 : ρ (.tmp 19) = .int .i64 ((e : Nat) : Int) := hL 19 (by decide +kernel)
      have l0 := HSH.out
      have h0 : (0 : Int) ≤ (e : Int) := by omega
      have h6 : (e : Int) < 64 := by omega
      simp [go_sem, hc, hf, e19, l0, h0, h6]
      exact ⟨Below.refl _ _, rfl⟩
    refine gSt (gStep_run rfl ?_) ?_
    · intro ρ W hC hc hf hL
      have e17 : ρ (.tmp 17) = .int .u64 (dgl a 1 : Nat) := hL 17 (by decide +kernel)
      have e20 : ρ (.tmp 20) = .int .u64 ((2 : Int) ^ e) := hL 20 (by decide +kernel)
      have l0 := HAD.out
      simp [go_sem, hc, hf, e17, e20, l0]
      exact ⟨Below.refl _ _, rfl⟩
    refine gSt (gStep_run rfl ?_) ?_
    · intro ρ W hC hc hf hL
      have e3 : ρ (.tmp 3) = .pointer (some ⟨w.heap.size, 0, none⟩) := hL 3 (by decide +kernel)
      simp [go_sem, hc, hf, e3]
      exact ⟨Below.refl _ _, rfl⟩
    exact gSt0
  · intro W hC
    refine gFi 16 rfl ?_
    rintro _ rfl
    refine gFi 17 rfl ?_
    rintro _ rfl
    refine gFi 18 rfl ?_
    rintro _ rfl
    refine gFi 19 rfl ?_
    rintro _ rfl
    refine gFi 20 rfl ?_
    rintro _ rfl
    refine gFi 21 rfl ?_
    rintro _ rfl
    refine gFi 22 rfl ?_
    rintro _ rfl
    refine gFi0 ?_
    simp only [List.drop_succ_cons, List.drop_zero, Act.put, List.setIfInBounds_toArray, List.set_cons_succ, List.set_cons_zero]
    have l0 := hC.wa.h
    have hf7 := hC.wf
    have hl7 := hC.wa.lt
    have HS2 := hide (show RqSt b w (W.setCell ⟨w.heap.size, 0, none⟩ (.int .u64 (dgl b 1 : Nat))) from
      ⟨wb_seth hC.wa HOT.out, fun i => by simpa [go_sem] using hC.wf i, ⟨by simpa [go_sem] using hC.r.h, by simpa [go_sem] using hC.r.l, by simpa [go_sem] using hC.r.lt⟩, fun i => by simpa [go_sem] using hC.fr i, by simpa [go_sem] using hC.lt, hC.bel.setCell (p := ⟨w.heap.size, 0, none⟩) (Nat.le_refl _) _⟩)
    clear hC h3
    go_upto_region 7 with fail
    refine wp_gen (fun W => RqSt b w W) HS2.out ?_
    clear HS2 l0 hf7 hl7
    rintro W9 h9
    have HS := hide h9
    clear h9
    have lh := HS.out.wa.h
    have ll := HS.out.wa.l
    have rh := HS.out.r.h
    have rl := HS.out.r.l
    have hrf := HS.out.fr
    have hlt := HS.out.lt
    have HB := hide HS.out.bel
    clear HS
    go_wp2
    exact bodyPost_ret (v := .agg #[.int .u64 (dgl (b) 1 : Nat), .int .u64 (dgl (b) 0 : Nat)]) (by simp [results, Tryd.results43, go_sem, hlt, rh, rl]) rfl ⟨rfl, (HB.out.setCell (p := ⟨w.heap.size + 1, 0, none⟩) (Nat.le_succ _) _).setCell (p := ⟨w.heap.size + 1, 1, none⟩) (Nat.le_succ _) _⟩
    

set_option maxHeartbeats 2000000 in
theorem rquiet_L (f : Int) (a b cl P k e : Nat)
    (HCL : Hid (∀ w, Calls Tryd.prog 31 #[.int .i64 f, .agg #[.int .u64 (dgl (a) 1 : Nat), .int .u64 (dgl (a) 0 : Nat)]] w fun e w' => e = .returned (.int .i64 (cl : Nat)) ∧ Below w.heap.size w w'))
    (hcl : ((cl : Int) != 1) = false)
    (HPR : Hid (∀ w, Calls Tryd.prog 34 #[.int .i64 f] w fun e w' => e = .returned (.int .i64 (P : Nat)) ∧ w' = w))
    (hP : P ≤ 200) (HK : Hid ((P : Int) - 2 = (k : Int)))
    (hk6 : k < 64)
    (HAD : Hid (dgl b 0 = dgl a 0 + 2 ^ k)) (HOT : Hid (dgl b 1 = dgl a 1)) (w : World) :
    Calls Tryd.prog 43 #[.int .i64 f, .agg #[.int .u64 (dgl (a) 1 : Nat), .int .u64 (dgl (a) 0 : Nat)]] w fun e w' => e = .returned (.agg #[.int .u64 (dgl (b) 1 : Nat), .int .u64 (dgl (b) 0 : Nat)]) ∧ Below w.heap.size w w' := by
  have HS := hide (rqSt_start a w)
  replace HAD := hide (add_bit (a := dgl a 0) (e := k) (b := dgl b 0) hk6 HAD.out (dgl_lt _ _))
  have HSH := hide (shl_wrap7 (e := k) hk6)
  go_enter Tryd.func43, Tryd.ntmps43
  go_upto_region 1 with fail
  refine wp_gen (fun W => RqSt a w W) HS.out ?_
  clear HS
  rintro W1 h1
  have HS := hide h1
  clear h1
  have lh := HS.out.wa.h
  have ll := HS.out.wa.l
  go_wp2_with fail
  refine (HCL.out _).mono ?_
  rintro e_ w1 ⟨rfl, hb1⟩
  replace HS := hide (HS.out.below hb1)
  clear hb1 lh ll
  go_wp2_with fail
  refine (HPR.out _).mono ?_
  rintro e_ wl ⟨rfl, hw⟩
  subst wl
  have hw2 : IntKind.i64.wrap ((P : Int) - 2) = (k : Int) := by rw [IntKind.wrap_i64]; have := HK.out; omega
  have h64 : ¬ (64 : Int) ≤ (k : Int) := by omega
  go_upto_region 6 with fail
  refine wp_gen (fun W => RqSt a w W) HS.out ?_
  clear HS hw2 h64
  rintro W3 h3
  refine wp_region_grow 6 [(23, .val (.pointer (some ⟨w.heap.size, 1, none⟩))), (24, .val (.int .u64 (dgl a 0 : Nat))), (25, .val (.int .i64 ((k : Nat) : Int))), (26, .val (.int .u64 ((2 : Int) ^ k))), (27, .val (.int .u64 (dgl b 0 : Nat))), (28, .val (.pointer (some ⟨w.heap.size, 1, none⟩)))]
    (fun W => RqSt a w W) mixedOk (by kernel_rfl) (by kernel_rfl) (h3.below (Below.refl _ _).drew) (fun W W' h hb => h.below hb) ?_ ?_
  · refine gSt (gStep_run rfl ?_) ?_
    · intro ρ W hC hc hf hL
      have e3 : ρ (.tmp 3) = .pointer (some ⟨w.heap.size, 0, none⟩) := hL 3 (by decide +kernel)
      simp [go_sem, hc, hf, e3]
      exact ⟨Below.refl _ _, rfl⟩
    refine gSt (gStep_run rfl ?_) ?_
    · intro ρ W hC hc hf hL
      have e23 : ρ (.tmp 23) = .pointer (some ⟨w.heap.size, 1, none⟩) := hL 23 (by decide +kernel)
      have l0 := hC.wa.l
      simp [go_sem, hc, hf, e23, l0]
      exact ⟨Below.refl _ _, rfl⟩
    refine gSt (gStep_run rfl (gRun_move 5 25 (.inl rfl) rfl (by decide +kernel) (fun v w h => h))) ?_
    refine gSt (gStep_run rfl ?_) ?_
    · intro ρ W hC hc hf hL
      have e25 : ρ (.tmp 25) = .int .i64 ((k : Nat) : Int) := hL 25 (by decide +kernel)
      have l0 := HSH.out
      have h0 : (0 : Int) ≤ (k : Int) := by omega
      have h6 : (k : Int) < 64 := by omega
      simp [go_sem, hc, hf, e25, l0, h0, h6]
      exact ⟨Below.refl _ _, rfl⟩
    refine gSt (gStep_run rfl ?_) ?_
    · intro ρ W hC hc hf hL
      have e24 : ρ (.tmp 24) = .int .u64 (dgl a 0 : Nat) := hL 24 (by decide +kernel)
      have e26 : ρ (.tmp 26) = .int .u64 ((2 : Int) ^ k) := hL 26 (by decide +kernel)
      have l0 := HAD.out
      simp [go_sem, hc, hf, e24, e26, l0]
      exact ⟨Below.refl _ _, rfl⟩
    refine gSt (gStep_run rfl ?_) ?_
    · intro ρ W hC hc hf hL
      have e3 : ρ (.tmp 3) = .pointer (some ⟨w.heap.size, 0, none⟩) := hL 3 (by decide +kernel)
      simp [go_sem, hc, hf, e3]
      exact ⟨Below.refl _ _, rfl⟩
    exact gSt0
  · intro W hC
    refine gFi 23 rfl ?_
    rintro _ rfl
    refine gFi 24 rfl ?_
    rintro _ rfl
    refine gFi 25 rfl ?_
    rintro _ rfl
    refine gFi 26 rfl ?_
    rintro _ rfl
    refine gFi 27 rfl ?_
    rintro _ rfl
    refine gFi 28 rfl ?_
    rintro _ rfl
    refine gFi0 ?_
    simp only [List.drop_succ_cons, List.drop_zero, Act.put, List.setIfInBounds_toArray, List.set_cons_succ, List.set_cons_zero]
    have l0 := hC.wa.l
    have hf7 := hC.wf
    have hl7 := hC.wa.lt
    have HS2 := hide (show RqSt b w (W.setCell ⟨w.heap.size, 1, none⟩ (.int .u64 (dgl b 0 : Nat))) from
      ⟨wb_setl hC.wa HOT.out, fun i => by simpa [go_sem] using hC.wf i, ⟨by simpa [go_sem] using hC.r.h, by simpa [go_sem] using hC.r.l, by simpa [go_sem] using hC.r.lt⟩, fun i => by simpa [go_sem] using hC.fr i, by simpa [go_sem] using hC.lt, hC.bel.setCell (p := ⟨w.heap.size, 1, none⟩) (Nat.le_refl _) _⟩)
    clear hC h3
    go_upto_region 7 with fail
    refine wp_gen (fun W => RqSt b w W) HS2.out ?_
    clear HS2 l0 hf7 hl7
    rintro W9 h9
    have HS := hide h9
    clear h9
    have lh := HS.out.wa.h
    have ll := HS.out.wa.l
    have rh := HS.out.r.h
    have rl := HS.out.r.l
    have hrf := HS.out.fr
    have hlt := HS.out.lt
    have HB := hide HS.out.bel
    clear HS
    go_wp2
    exact bodyPost_ret (v := .agg #[.int .u64 (dgl (b) 1 : Nat), .int .u64 (dgl (b) 0 : Nat)]) (by simp [results, Tryd.results43, go_sem, hlt, rh, rl]) rfl ⟨rfl, (HB.out.setCell (p := ⟨w.heap.size + 1, 0, none⟩) (Nat.le_succ _) _).setCell (p := ⟨w.heap.size + 1, 1, none⟩) (Nat.le_succ _) _⟩
    

theorem rquieted_u (f : Int) (a : Nat) (ha : a < 2 ^ 128) (w : World) : Calls Tryd.prog 43 #[.int .i64 f, .agg #[.int .u64 (dgl (a) 1 : Nat), .int .u64 (dgl (a) 0 : Nat)]] w fun e w' => e = .returned (.agg #[.int .u64 (dgl (quU f a) 1 : Nat), .int .u64 (dgl (quU f a) 0 : Nat)]) ∧ Below w.heap.size w w' := by
  have HC := fun w => refCls_u f a ha w
  by_cases h : clsU f a = 1
  · have hf : 1 ≤ f ∧ f ≤ 4 := cls_form (a := a) (by omega)
    have hp := prU_bd f hf
    obtain ⟨h1, h2⟩ := qui_bit h
    have hc : (((clsU f a : Nat) : Int) != 1) = false := by rw [h]; rfl
    by_cases h6 : prU f - 2 < 64
    · obtain ⟨h3, h4⟩ := h1 h6
      exact rquiet_L f a (quU f a) (clsU f a) (prU f) (prU f - 2) 0 HC hc (fun w => prec_u f hf w) (by omega) (by unfold Hid; omega) h6 h3 h4 w
    · obtain ⟨h3, h4⟩ := h2 h6
      exact rquiet_H f a (quU f a) (clsU f a) (prU f) (prU f - 2) (prU f - 2 - 64) HC hc (fun w => prec_u f hf w) (by omega) (by unfold Hid; omega) (by unfold Hid; omega) (by omega) h3 h4 w
  · rw [show quU f a = a from if_neg h]
    exact rquiet_N f a 0 (clsU f a) 0 0 0 HC (by rw [bne_iff_ne]; omega) w
structure NcSt (q : Nat) (f : Int) (a : Nat) (w W : World) : Prop where
  wa : WB W (w.heap.size) (dgl a 1) (dgl a 0)
  cf : CapF q f W
  lt : w.heap.size < W.heap.size
  bel : Below w.heap.size w W
theorem NcSt.below {q : Nat} {f : Int} {a : Nat} {w W W' : World} (h : NcSt q f a w W) (hb : Below W.heap.size W W') : NcSt q f a w W' := ⟨h.wa.below hb, h.cf.below hb, Nat.lt_of_lt_of_le h.lt hb.size, below_trans h.bel hb⟩
theorem ncSt_start (q : Nat) (f : Int) (a : Nat) (w : World) (h : CapF q f w) : NcSt q f a w (w.alloc (.cells #[.int .u64 (dgl (a) 1 : Nat), .int .u64 (dgl (a) 0 : Nat)] 28)) :=
  ⟨⟨by simp [go_sem], by simp [go_sem], by simp⟩, h.below (below_allocs _ _), by simp, below_allocs _ _⟩

set_option maxHeartbeats 1000000 in
theorem nanC1_any (q : Nat) (f : Int) (a cl : Nat) (b : Bool)
    (HN : Hid (∀ w, FmtG w → Calls Tryd.prog 89 #[.int .i64 f, .agg #[.int .u64 (dgl (a) 1 : Nat), .int .u64 (dgl (a) 0 : Nat)]] w fun e w' => e = .returned (.bool b) ∧ Below w.heap.size w w')) (w : World) (hc : CapF q f w) :
    Calls Tryd.prog 88 #[.agg #[.int .u64 (dgl (a) 1 : Nat), .int .u64 (dgl (a) 0 : Nat)], .pointer (some ⟨q, 0, none⟩)] w fun e w' => e = .returned (.bool b) ∧ Below w.heap.size w w' := by
  have HS := hide (ncSt_start q f a w hc)
  clear hc
  go_enter Tryd.func88, Tryd.ntmps88
  go_upto_region 1 with fail
  refine wp_gen (fun W => NcSt q f a w W) HS.out ?_
  clear HS
  rintro W1 h1
  have HS := hide h1
  clear h1
  have lh := HS.out.wa.h
  have ll := HS.out.wa.l
  have lc := HS.out.cf.c
  have lt := HS.out.cf.lt
  go_wp2_with fail
  refine (HN.out _ HS.out.cf.g).mono ?_
  rintro e w1 ⟨rfl, hb1⟩
  have HB := hide (below_trans HS.out.bel hb1)
  clear hb1 lh ll lc lt HS
  go_wp2
  go_ret
  exact ⟨rfl, HB.out⟩

set_option maxHeartbeats 1000000 in
theorem nanC2_any (q : Nat) (f : Int) (a cl : Nat) (b : Bool)
    (HN : Hid (∀ w, FmtG w → Calls Tryd.prog 92 #[.int .i64 f, .agg #[.int .u64 (dgl (a) 1 : Nat), .int .u64 (dgl (a) 0 : Nat)]] w fun e w' => e = .returned (.int .i64 (cl : Nat)) ∧ Below w.heap.size w w'))
    (hb : ((cl : Int) == 1) = b) (w : World) (hc : CapF q f w) :
    Calls Tryd.prog 91 #[.agg #[.int .u64 (dgl (a) 1 : Nat), .int .u64 (dgl (a) 0 : Nat)], .pointer (some ⟨q, 0, none⟩)] w fun e w' => e = .returned (.bool b) ∧ Below w.heap.size w w' := by
  have HS := hide (ncSt_start q f a w hc)
  clear hc
  go_enter Tryd.func91, Tryd.ntmps91
  go_upto_region 1 with fail
  refine wp_gen (fun W => NcSt q f a w W) HS.out ?_
  clear HS
  rintro W1 h1
  have HS := hide h1
  clear h1
  have lh := HS.out.wa.h
  have ll := HS.out.wa.l
  have lc := HS.out.cf.c
  have lt := HS.out.cf.lt
  go_wp2_with fail
  refine (HN.out _ HS.out.cf.g).mono ?_
  rintro e w1 ⟨rfl, hb1⟩
  have HB := hide (below_trans HS.out.bel hb1)
  clear hb1 lh ll lc lt HS
  go_wp2
  go_ret
  exact ⟨rfl, HB.out⟩

theorem ret_in {a b : Int} (h : a = b) : Ending.returned (.int .i64 a) = Ending.returned (.int .i64 b) := by rw [h]
/-- slices.IndexFunc over words: the first one that a predicate takes. -/
theorem idx_any (l : List Nat) (v : Value) (fid : Nat) (caps : Array Value) (hent : ∀ args w, (callFunc fid args).run Tryd.prog w = .ok (.enter fid args) w) (C0 : World → Prop) (hC0s : ∀ W W', C0 W → Below W.heap.size W W' → C0 W') (p : Nat → Bool)
    (HP : Hid (∀ i, i < l.length → ∀ w, C0 w → Calls Tryd.prog fid (#[.agg #[.int .u64 (dgl (dg l i) 1 : Nat), .int .u64 (dgl (dg l i) 0 : Nat)]] ++ caps) w fun e w' => e = .returned (.bool (p (dg l i))) ∧ Below w.heap.size w w'))
    (N : Nat) (hN : N ≤ l.length) (hlo : ∀ i, i < N → p (dg l i) = false) (hhi : N < l.length → p (dg l N) = true) (r : Int) (hr9 : r = if N < l.length then (N : Int) else -1) (w : World) (hr : RdD w v l) (hc0 : C0 w) :
    Calls Tryd.prog 87 #[v, .func (.func fid) #[] caps] w fun e w' => e = .returned (.int .i64 r) ∧ Below w.heap.size w w' := by
  obtain ⟨ao, ca, rfl, hca, hma, hra⟩ := hr
  unfold maxLen at hma
  have HRA := hide hra
  have HLO := hide hlo
  have HHI := hide hhi
  have HR9 := hide hr9
  have HC0 := hide hc0
  clear hra hlo hhi hr9 hc0
  generalize hn : l.length = n at *
  have HNN := hide hn
  clear hn
  go_enter Tryd.func87, Tryd.ntmps87
  go_wp2
  go_loopw [8] (fun i wr => ∃ k : Nat, k ≤ N ∧ i = .int .i64 k ∧ Hid (C0 wr ∧ Below w.heap.size w wr))
    (fun i _ => n - (intOf i).toNat)
  case atStart => exact ⟨0, by omega, rfl, HC0.out, Below.refl _ _⟩
  case round =>
    clear HC0
    obtain ⟨k, hk, rfl, hst⟩ := hrel
    by_cases hlt : k < n
    · have hj : (k : Int) < (n : Int) := by omega
      rcases unhide HRA with hc | ⟨b, off, rfl, hbl, hcell⟩
      · omega
      · have hck0 := (hst.out.2.cell (p := ⟨b, off + k * 2, none⟩) hbl).trans (hcell k hlt).1
        have hck1 := (hst.out.2.cell (p := ⟨b, off + k * 2 + 1, none⟩) hbl).trans (hcell k hlt).2
        have HPK := hide (HP.out k hlt)
        have HLK := hide (HLO.out k)
        have HHK : Hid (k = N → p (dg l k) = true) := fun e => by subst e; exact HHI.out hlt
        clear hcell
        generalize dg l k = x at *
        go_wp2_with fail
        refine (HPK.out _ hst.out.1).mono ?_
        rintro e w1 ⟨rfl, hb1⟩
        have HST := hide (show C0 w1 ∧ Below w.heap.size w w1 from ⟨hC0s _ _ hst.out.1 hb1, below_trans hst.out.2 hb1⟩)
        clear hst hb1 hck0 hck1
        have hkn : (k : Int) < 9223372036854775807 := by omega
        cases hp : p x
        · have hkN : k ≠ N := fun e => by rw [HHK.out e] at hp; cases hp
          clear HHK HLK
          go_wp2
          go_roundw
          case rel => exact ⟨k + 1, by omega, by go_num, HST.out⟩
          case measure => simp [intOf]; omega
        · have hkN : k = N := by
            rcases Nat.lt_or_eq_of_le hk with h1 | h1
            · rw [HLK.out h1] at hp; cases hp
            · exact h1
          have HRR : Hid ((k : Int) = r) := by unfold Hid; rw [HR9.out, if_pos (by omega)]; omega
          clear HHK HLK hkN
          go_wp2
          go_ret
          exact ⟨ret_in HRR.out, HST.out.2⟩
    · have HRR : Hid ((-1 : Int) = r) := by unfold Hid; rw [HR9.out, if_neg (by omega)]
      have hj : ¬ (k : Int) < (n : Int) := by omega
      have HB := hide hst.out.2
      clear hst
      go_wp2
      go_ret
      exact ⟨ret_in HRR.out, HB.out⟩

theorem cont_any (Cc : World → Prop) (v fv : Value) (r : Int) (b : Bool) (HI : Hid (∀ w, Cc w → Calls Tryd.prog 87 #[v, fv] w fun e w' => e = .returned (.int .i64 r) ∧ Below w.heap.size w w')) (hb : decide (0 ≤ r) = b) (w : World) (hc : Cc w) :
    Calls Tryd.prog 90 #[v, fv] w fun e w' => e = .returned (.bool b) ∧ Below w.heap.size w w' := by
  have HB0 := hide (HI.out w hc)
  go_enter Tryd.func90, Tryd.ntmps90
  go_wp2_with fail
  refine HB0.out.mono ?_
  rintro e w1 ⟨rfl, hb1⟩
  have HB := hide hb1
  clear hb1
  go_wp2
  go_ret
  exact ⟨rfl, HB.out⟩

end Go.Proofs.YtpcjdllijkjdkaaDoor

/- Contracts: nan.None, Of; the document's Of. -/
set_option linter.unusedVariables false
set_option linter.unusedSimpArgs false
set_option maxRecDepth 8000
namespace Go.Proofs.YtpcjdllijkjdkaaDoor
open Go.RowKit Plain

/-- The first one that a predicate takes, or how many there are. -/
def fi1 (p : Nat → Bool) : List Nat → Nat
  | [] => 0
  | a :: t => bif p a then 0 else fi1 p t + 1
theorem fi1_le (p : Nat → Bool) (l : List Nat) : fi1 p l ≤ l.length := by
  induction l with
  | nil => exact Nat.le_refl _
  | cons a t ih =>
    unfold fi1
    cases p a
    · exact Nat.succ_le_succ ih
    · exact Nat.zero_le _
theorem fi1_lo (p : Nat → Bool) (l : List Nat) : ∀ i, i < fi1 p l → p (dg l i) = false := by
  induction l with
  | nil => intro i hi; exact absurd hi (Nat.not_lt_zero _)
  | cons a t ih =>
    intro i hi
    unfold fi1 at hi
    cases hp : p a
    · rw [hp] at hi
      rcases i with _ | i
      · exact hp
      · exact ih i (Nat.lt_of_succ_lt_succ hi)
    · rw [hp] at hi
      exact absurd hi (Nat.not_lt_zero _)
theorem fi1_hi (p : Nat → Bool) (l : List Nat) : fi1 p l < l.length → p (dg l (fi1 p l)) = true := by
  induction l with
  | nil => intro hi; exact absurd hi (Nat.not_lt_zero _)
  | cons a t ih =>
    intro hi
    unfold fi1 at hi ⊢
    cases hp : p a
    · rw [hp] at hi
      exact ih (Nat.lt_of_succ_lt_succ hi)
    · exact hp
def sgB (f : Int) (a : Nat) : Bool := decide (clsU f a = 1)
/-- What comes of words, from the last one on. -/
def ofR (f : Int) : List Nat → Nat × Bool × Bool
  | [] => (0, false, false)
  | a :: t => bif sgB f a then (quU f a, true, true) else bif decide (clsU f a = 2) then (quU f a, (ofR f t).2.1, true) else ofR f t
theorem ofR_step (f : Int) (a : Nat) (t : List Nat) : ofR f (a :: t) = (bif nanB f a then quU f a else (ofR f t).1, sgB f a || (ofR f t).2.1, nanB f a || (ofR f t).2.2) := by
  show (bif sgB f a then _ else _) = _
  unfold nanB
  show (bif sgB f a then _ else _) = (bif sgB f a || _ then _ else _, _, (sgB f a || _) || _)
  cases sgB f a
  · cases decide (clsU f a = 2) <;> rfl
  · rfl
theorem ofR_sig (f : Int) (l : List Nat) : (ofR f l).2.1 = decide (fi1 (sgB f) l < l.length) := by
  induction l with
  | nil => rfl
  | cons a t ih =>
    rw [ofR_step]
    unfold fi1
    cases h : sgB f a
    · show (false || (ofR f t).2.1) = decide (fi1 (sgB f) t + 1 < t.length + 1)
      rw [Bool.false_or, ih, Bool.eq_iff_iff, decide_eq_true_iff, decide_eq_true_iff]
      omega
    · exact (decide_eq_true (Nat.succ_pos _)).symm
theorem ofR_nan (f : Int) (l : List Nat) : (ofR f l).2.2 = decide (fi1 (nanB f) l < l.length) ∧ (ofR f l).1 = if fi1 (nanB f) l < l.length then quU f (dg l (fi1 (nanB f) l)) else 0 := by
  induction l with
  | nil => exact ⟨rfl, rfl⟩
  | cons a t ih =>
    rw [ofR_step]
    unfold fi1
    cases h : nanB f a
    · refine ⟨?_, ?_⟩
      · show (false || (ofR f t).2.2) = decide (fi1 (nanB f) t + 1 < t.length + 1)
        rw [Bool.false_or, ih.1, Bool.eq_iff_iff, decide_eq_true_iff, decide_eq_true_iff]
        omega
      · show (ofR f t).1 = if fi1 (nanB f) t + 1 < t.length + 1 then quU f (dg t (fi1 (nanB f) t)) else 0
        rw [ih.2]
        by_cases h2 : fi1 (nanB f) t < t.length
        · rw [if_pos h2, if_pos (by omega)]
        · rw [if_neg h2, if_neg (by omega)]
    · exact ⟨(decide_eq_true (Nat.succ_pos _)).symm, (if_pos (Nat.succ_pos _)).symm⟩
theorem ofR_sub {f : Int} {l : List Nat} (h : ¬ fi1 (nanB f) l < l.length) : (ofR f l).2.1 = false := by
  induction l with
  | nil => rfl
  | cons a t ih =>
    rw [ofR_step]
    unfold fi1 at h
    cases hb : nanB f a
    · rw [hb] at h
      have h1 : ¬ fi1 (nanB f) t < t.length := fun h2 => h (Nat.succ_lt_succ h2)
      rw [ih h1, Bool.or_false]
      unfold nanB at hb
      cases hs : sgB f a
      · rfl
      · unfold sgB at hs; rw [hs] at hb; cases hb
    · rw [hb] at h
      exact absurd (Nat.succ_pos _) h
theorem drop_dg (l : List Nat) (c : Nat) (h : c < l.length) : l.drop c = dg l c :: l.drop (c + 1) := by
  rw [List.drop_eq_getElem_cons h]
  congr 1
  simp [dg, h]
structure NoSt  (w W : World) : Prop where
  g : FmtG W
  gl : 1 < w.heap.size
  r : WB W (w.heap.size) (0) (0)
  fr : ∀ i, W.frozen? ⟨w.heap.size, i, none⟩ = false
  lt : w.heap.size < W.heap.size
  bel : Below w.heap.size w W
theorem NoSt.under  {w W W' : World} (h : NoSt w W) {C : Nat} (hb : Below C W W') (hc : w.heap.size < C) : NoSt w W' :=
  ⟨⟨fun i hi => (hb.cell (p := ⟨1, i, none⟩) (show 1 < C by have := h.gl; omega)).trans (h.g.c i hi), Nat.lt_of_lt_of_le h.g.lt hb.size⟩, h.gl, h.r.under hb (show w.heap.size < C by omega), fun i => (hb.frozen (p := ⟨w.heap.size, i, none⟩) (show w.heap.size < C by omega)).trans (h.fr i), Nat.lt_of_lt_of_le h.lt hb.size, h.bel.trans (hb.mono (by omega))⟩
theorem NoSt.below  {w W W' : World} (h : NoSt w W) (hb : Below W.heap.size W W') : NoSt w W' := h.under hb h.lt
theorem noSt_start (w : World) (hg : FmtG w) : NoSt w (w.alloc (.cells #[.int .u64 0, .int .u64 0] 28)) :=
  ⟨hg.below (below_allocs _ _), hg.lt, wb_new _ _, fun i => by simp [go_sem], by simp, below_allocs _ _⟩

set_option maxHeartbeats 1000000 in
theorem none_Y (f : Int) (k : Nat → Int) (a : Nat)
    (HO : Hid (∀ w, FmtG w → Calls Tryd.prog 47 #[.int .i64 f] w fun e w' => e = .returned (.tuple #[.agg #[.int .i64 (k 0), .int .i64 (k 1), .int .i64 (k 2), .int .i64 (k 3), .int .i64 (k 4)], .bool true]) ∧ Below w.heap.size w w'))
    (HN : Hid (∀ w, FmtG w → Calls Tryd.prog 93 #[.int .i64 f] w fun e w' => e = .returned (.agg #[.int .u64 (dgl (a) 1 : Nat), .int .u64 (dgl (a) 0 : Nat)]) ∧ Below w.heap.size w w')) (w : World) (hg : FmtG w) :
    Calls Tryd.prog 40 #[.int .i64 f] w fun e w' => e = .returned (.tuple #[.agg #[.int .u64 (dgl (a) 1 : Nat), .int .u64 (dgl (a) 0 : Nat)], .int .i64 1]) ∧ Below w.heap.size w w' := by
  have HS := hide (noSt_start w hg)
  clear hg
  go_enter Tryd.func40, Tryd.ntmps40
  go_upto_region 1 with fail
  refine wp_gen (fun W => NoSt w W) HS.out ?_
  clear HS
  rintro W1 h1
  have HS := hide h1
  clear h1
  go_wp2_with fail
  refine (HO.out _ HS.out.g).mono ?_
  rintro e w1 ⟨rfl, hb1⟩
  replace HS := hide (HS.out.below hb1)
  clear hb1
  go_upto_region 2 with fail
  refine wp_gen (fun W => NoSt w W) (HS.out.below (below_allocs _ _)) ?_
  clear HS
  rintro W2 h2
  have HS := hide h2
  clear h2
  go_wp2_with fail
  refine (HN.out _ HS.out.g).mono ?_
  rintro e w2 ⟨rfl, hb2⟩
  replace HS := hide (HS.out.below hb2)
  clear hb2
  have rh := HS.out.r.h
  have rl := HS.out.r.l
  have hrf := HS.out.fr
  have hlt := HS.out.lt
  have HB := hide HS.out.bel
  clear HS
  go_wp2
  exact bodyPost_ret (v := .tuple #[.agg #[.int .u64 (dgl (a) 1 : Nat), .int .u64 (dgl (a) 0 : Nat)], .int .i64 1]) (by simp [results, Tryd.results40, go_sem, hlt, rh, rl]) rfl ⟨rfl, (HB.out.setCell (p := ⟨w.heap.size, 0, none⟩) (Nat.le_refl _) _).setCell (p := ⟨w.heap.size, 1, none⟩) (Nat.le_refl _) _⟩

set_option maxHeartbeats 1000000 in
theorem none_N (f : Int) (k : Nat → Int) (a : Nat)
    (HO : Hid (∀ w, FmtG w → Calls Tryd.prog 47 #[.int .i64 f] w fun e w' => e = .returned (.tuple #[.agg #[.int .i64 (k 0), .int .i64 (k 1), .int .i64 (k 2), .int .i64 (k 3), .int .i64 (k 4)], .bool false]) ∧ Below w.heap.size w w')) (w : World) (hg : FmtG w) :
    Calls Tryd.prog 40 #[.int .i64 f] w fun e w' => e = .returned (.tuple #[.agg #[.int .u64 0, .int .u64 0], .int .i64 0]) ∧ Below w.heap.size w w' := by
  have HS := hide (noSt_start w hg)
  clear hg
  go_enter Tryd.func40, Tryd.ntmps40
  go_upto_region 1 with fail
  refine wp_gen (fun W => NoSt w W) HS.out ?_
  clear HS
  rintro W1 h1
  have HS := hide h1
  clear h1
  go_wp2_with fail
  refine (HO.out _ HS.out.g).mono ?_
  rintro e w1 ⟨rfl, hb1⟩
  replace HS := hide (HS.out.below hb1)
  clear hb1
  go_upto_region 2 with fail
  refine wp_gen (fun W => NoSt w W) (HS.out.below (below_allocs _ _)) ?_
  clear HS
  rintro W2 h2
  have HS := hide h2
  clear h2
  have rh := HS.out.r.h
  have rl := HS.out.r.l
  have hrf := HS.out.fr
  have hlt := HS.out.lt
  have HB := hide HS.out.bel
  clear HS
  go_wp2
  exact bodyPost_ret (v := .tuple #[.agg #[.int .u64 0, .int .u64 0], .int .i64 0]) (by simp [results, Tryd.results40, go_sem, hlt, rh, rl]) rfl ⟨rfl, (HB.out.setCell (p := ⟨w.heap.size, 0, none⟩) (Nat.le_refl _) _).setCell (p := ⟨w.heap.size, 1, none⟩) (Nat.le_refl _) _⟩
structure OnSt (f : Int) (x1 x0 : Nat) (w W : World) : Prop where
  g : FmtG W
  gl : 1 < w.heap.size
  c : W.cell? ⟨w.heap.size, 0, none⟩ = some (.int .i64 f)
  r : WB W (w.heap.size + 1) (x1) (x0)
  fr : ∀ i, W.frozen? ⟨w.heap.size + 1, i, none⟩ = false
  lt : w.heap.size + 1 < W.heap.size
  bel : Below w.heap.size w W
theorem OnSt.under {f : Int} {x1 x0 : Nat} {w W W' : World} (h : OnSt f x1 x0 w W) {C : Nat} (hb : Below C W W') (hc : w.heap.size + 1 < C) : OnSt f x1 x0 w W' :=
  ⟨⟨fun i hi => (hb.cell (p := ⟨1, i, none⟩) (show 1 < C by have := h.gl; omega)).trans (h.g.c i hi), Nat.lt_of_lt_of_le h.g.lt hb.size⟩, h.gl, (hb.cell (p := ⟨w.heap.size, 0, none⟩) (show w.heap.size < C by omega)).trans h.c, h.r.under hb (show w.heap.size + 1 < C by omega), fun i => (hb.frozen (p := ⟨w.heap.size + 1, i, none⟩) (show w.heap.size + 1 < C by omega)).trans (h.fr i), Nat.lt_of_lt_of_le h.lt hb.size, h.bel.trans (hb.mono (by omega))⟩
theorem OnSt.below {f : Int} {x1 x0 : Nat} {w W W' : World} (h : OnSt f x1 x0 w W) (hb : Below W.heap.size W W') : OnSt f x1 x0 w W' := h.under hb h.lt
theorem onSt_start (f : Int) (w : World) (hg : FmtG w) : OnSt f 0 0 w ((w.alloc (.cells #[.int .i64 f] 3)).alloc (.cells #[.int .u64 0, .int .u64 0] 28)) :=
  ⟨(hg.below (below_allocs _ _)).below (below_allocs _ _), hg.lt, by simp [go_sem], ⟨by simp [go_sem], by simp [go_sem], by simp⟩, fun i => by simp [go_sem], by simp, below_trans (below_allocs _ _) (below_allocs _ _)⟩
theorem OnSt.cap {f : Int} {x1 x0 : Nat} {w W : World} (h : OnSt f x1 x0 w W) : CapF w.heap.size f W := ⟨h.g, h.c, by have := h.lt; omega⟩
theorem OnSt.setR {f : Int} {x1 x0 : Nat} {w W : World} (h : OnSt f x1 x0 w W) (d1 d0 : Nat) : OnSt f d1 d0 w ((W.setCell ⟨w.heap.size + 1, 0, none⟩ (.int .u64 (d1 : Nat))).setCell ⟨w.heap.size + 1, 1, none⟩ (.int .u64 (d0 : Nat))) := by
  have hb := ((Below.refl (w.heap.size + 1) W).setCell (p := ⟨w.heap.size + 1, 0, none⟩) (Nat.le_refl _) (.int .u64 (d1 : Nat))).setCell (p := ⟨w.heap.size + 1, 1, none⟩) (Nat.le_refl _) (.int .u64 (d0 : Nat))
  exact ⟨⟨fun i hi => (hb.cell (p := ⟨1, i, none⟩) (show 1 < _ by have := h.gl; omega)).trans (h.g.c i hi), Nat.lt_of_lt_of_le h.g.lt hb.size⟩, h.gl, (hb.cell (p := ⟨w.heap.size, 0, none⟩) (Nat.lt_succ_self _)).trans h.c, wb_set h.r, fun i => by simpa [go_sem] using h.fr i, Nat.lt_of_lt_of_le h.lt hb.size, h.bel.trans (hb.mono (Nat.le_succ _))⟩

set_option maxHeartbeats 4000000 in
theorem nanof_N (f r : Int) (ao : Option Addr) (n ca N b off a y : Nat) (w : World)
    (HIX : Hid (∀ w', CapF w.heap.size f w' → Below w.heap.size w w' → Calls Tryd.prog 87 #[.slice ao n ca, .func (.func 88) #[] #[.pointer (some ⟨w.heap.size, 0, none⟩)]] w' fun e w'' => e = .returned (.int .i64 r) ∧ Below w'.heap.size w' w''))
    (hr : r = -1) (hg : FmtG w) :
    Calls Tryd.prog 38 #[.int .i64 f, .slice ao n ca] w fun e w' => e = .returned (.tuple #[.agg #[.int .u64 0, .int .u64 0], .int .i64 0, .bool false]) ∧ Below w.heap.size w w' := by
  have HS := hide (onSt_start f w hg)
  clear hg
  subst hr
  go_enter Tryd.func38, Tryd.ntmps38
  go_upto_region 1 with fail
  refine wp_gen (fun W => OnSt f 0 0 w W) HS.out ?_
  clear HS
  rintro W1 h1
  have HS := hide h1
  clear h1
  go_wp2_with fail
  refine (HIX.out _ HS.out.cap HS.out.bel).mono ?_
  rintro e w1 ⟨rfl, hb1⟩
  replace HS := hide (HS.out.below hb1)
  clear hb1
  have rh := HS.out.r.h
  have rl := HS.out.r.l
  have hrf := HS.out.fr
  have hlt := HS.out.lt
  have HB := hide HS.out.bel
  clear HS
  go_wp2
  exact bodyPost_ret (v := .tuple #[.agg #[.int .u64 0, .int .u64 0], .int .i64 0, .bool false]) (by simp [results, Tryd.results38, go_sem, hlt, rh, rl]) rfl ⟨rfl, (HB.out.setCell (p := ⟨w.heap.size + 1, 0, none⟩) (Nat.le_succ _) _).setCell (p := ⟨w.heap.size + 1, 1, none⟩) (Nat.le_succ _) _⟩

set_option maxHeartbeats 4000000 in
theorem nanof_S (f r : Int) (ao : Option Addr) (n ca N b off a y : Nat) (w : World)
    (HIX : Hid (∀ w', CapF w.heap.size f w' → Below w.heap.size w w' → Calls Tryd.prog 87 #[.slice ao n ca, .func (.func 88) #[] #[.pointer (some ⟨w.heap.size, 0, none⟩)]] w' fun e w'' => e = .returned (.int .i64 r) ∧ Below w'.heap.size w' w''))
    (hr : r = (N : Int)) (hN : N < n) (hn9 : n ≤ 2 ^ 63 - 1)
    (HCX : Hid (∀ w', CapF w.heap.size f w' → Below w.heap.size w w' → Calls Tryd.prog 90 #[.slice ao n ca, .func (.func 91) #[] #[.pointer (some ⟨w.heap.size, 0, none⟩)]] w' fun e w'' => e = .returned (.bool true) ∧ Below w'.heap.size w' w''))
    (hao : ao = some ⟨b, off, none⟩) (hbl : b < w.heap.size) (hc0 : w.cell? ⟨b, off + N * 2, none⟩ = some (.int .u64 (dgl a 1 : Nat))) (hc1 : w.cell? ⟨b, off + N * 2 + 1, none⟩ = some (.int .u64 (dgl a 0 : Nat)))
    (HQU : Hid (∀ w, FmtG w → Calls Tryd.prog 42 #[.int .i64 f, .agg #[.int .u64 (dgl (a) 1 : Nat), .int .u64 (dgl (a) 0 : Nat)]] w fun e w' => e = .returned (.agg #[.int .u64 (dgl (y) 1 : Nat), .int .u64 (dgl (y) 0 : Nat)]) ∧ Below w.heap.size w w')) (hg : FmtG w) :
    Calls Tryd.prog 38 #[.int .i64 f, .slice ao n ca] w fun e w' => e = .returned (.tuple #[.agg #[.int .u64 (dgl (y) 1 : Nat), .int .u64 (dgl (y) 0 : Nat)], .int .i64 1, .bool true]) ∧ Below w.heap.size w w' := by
  have HS := hide (onSt_start f w hg)
  clear hg
  subst hr
  subst hao
  have HC0 := hide hc0
  have HC1 := hide hc1
  clear hc0 hc1
  have hNi : (N : Int) < (n : Int) := by omega
  go_enter Tryd.func38, Tryd.ntmps38
  go_upto_region 1 with fail
  refine wp_gen (fun W => OnSt f 0 0 w W) HS.out ?_
  clear HS
  rintro W1 h1
  have HS := hide h1
  clear h1
  go_wp2_with fail
  refine (HIX.out _ HS.out.cap HS.out.bel).mono ?_
  rintro e w1 ⟨rfl, hb1⟩
  replace HS := hide (HS.out.below hb1)
  clear hb1
  have hj0 : ¬ (N : Int) < 0 := by omega
  go_wp2_with fail
  refine (HCX.out _ HS.out.cap HS.out.bel).mono ?_
  rintro e w2 ⟨rfl, hb2⟩
  replace HS := hide (HS.out.below hb2)
  clear hb2 hj0
  go_upto_region 7 with fail
  refine wp_gen (fun W => OnSt f 0 0 w W) HS.out ?_
  clear HS
  rintro W3 h3
  refine wp_region_storeK 10 [7] [18, 19, 20, 21, 22, 23, 24, 5, 6] (fun bs => [(18, .val (.int .i64 f)), (19, .val (.slice (some ⟨b, off, none⟩) n ca)), (20, .val (.int .i64 (N : Nat))), (21, .val (.pointer (some ⟨b, off + N * 2, none⟩))), (22, .val (.agg #[.int .u64 (dgl (a) 1 : Nat), .int .u64 (dgl (a) 0 : Nat)])), (23, .val (.agg #[.int .u64 (dgl (y) 1 : Nat), .int .u64 (dgl (y) 0 : Nat)])), (24, .val (.int .i64 1)), (5, .val (.int .i64 1)), (6, .val (.bool true))])
    (fun bs W => ∀ c, bs.headD false = c → OnSt f (bif c then dgl y 1 else 0) (bif c then dgl y 0 else 0) w W) (fun bs => rfl) mixedOk (by kernel_rfl) (by kernel_rfl) (by kernel_rfl) (fun c hc => by subst hc; exact h3.below (Below.refl _ _).drew) (fun bs W W' h hb c hc => (h c hc).below hb) ?_ ?_
  · refine kSt rfl (fun φ hφ => gStep_run rfl ?_) ?_
    · intro ρ W hC hc hf hL
      have e2 : ρ (.tmp 2) = .pointer (some ⟨w.heap.size, 0, none⟩) := hL 2 (by decide +kernel)
      have hφ0 : φ 7 = false := hφ 7 (by simp) (by kernel_rfl)
      have hD : OnSt f 0 0 w W := hC false hφ0
      have l0 := hD.c
      simp [go_sem, hc, hf, e2, l0]
      exact ⟨Below.refl _ _, rfl⟩
    refine kSt rfl (fun φ hφ => gStep_run rfl (gRun_move 1 19 (.inl rfl) rfl (by decide +kernel) (fun v w h => h))) ?_
    refine kSt rfl (fun φ hφ => gStep_run rfl (gRun_move 7 20 (.inl rfl) rfl (by decide +kernel) (fun v w h => h))) ?_
    refine kSt rfl (fun φ hφ => gStep_run rfl ?_) ?_
    · intro ρ W hC hc hf hL
      have e19 : ρ (.tmp 19) = .slice (some ⟨b, off, none⟩) n ca := hL 19 (by decide +kernel)
      have e20 : ρ (.tmp 20) = .int .i64 (N : Nat) := hL 20 (by decide +kernel)
      simp [go_sem, hc, hf, e19, e20, hNi]
      exact ⟨Below.refl _ _, rfl⟩
    refine kSt rfl (fun φ hφ => gStep_run rfl ?_) ?_
    · intro ρ W hC hc hf hL
      have e21 : ρ (.tmp 21) = .pointer (some ⟨b, off + N * 2, none⟩) := hL 21 (by decide +kernel)
      have hφ0 : φ 7 = false := hφ 7 (by simp) (by kernel_rfl)
      have hD : OnSt f 0 0 w W := hC false hφ0
      have l0 := (hD.bel.cell (p := ⟨b, off + N * 2, none⟩) hbl).trans HC0.out
      have l1 := (hD.bel.cell (p := ⟨b, off + N * 2 + 1, none⟩) hbl).trans HC1.out
      simp [go_sem, hc, hf, e21, l0, l1]
      exact ⟨Below.refl _ _, rfl⟩
    refine kSt rfl (fun φ hφ => gStep_run rfl ?_) ?_
    · intro ρ W hC hc hf hL
      have e18 : ρ (.tmp 18) = .int .i64 f := hL 18 (by decide +kernel)
      have e22 : ρ (.tmp 22) = .agg #[.int .u64 (dgl (a) 1 : Nat), .int .u64 (dgl (a) 0 : Nat)] := hL 22 (by decide +kernel)
      have hφ0 : φ 7 = false := hφ 7 (by simp) (by kernel_rfl)
      have hD : OnSt f 0 0 w W := hC false hφ0
      simp [go_sem, hc, hf, e18, e22]
      refine (HQU.out W hD.g).mono ?_
      rintro e w' ⟨rfl, hb⟩
      exact ⟨_, rfl, by first | exact hb | (subst hb; exact Below.refl _ _), rfl⟩
    refine kSt rfl (fun φ hφ => gStep_run rfl (gRun_move 8 24 (.inl rfl) rfl (by decide +kernel) (fun v w h => h))) ?_
    refine kStS rfl ⟨rfl, rfl, ?_⟩ ?_
    · intro φ ρ W hφ hC hc hL
      have e4 : ρ (.tmp 4) = .pointer (some ⟨w.heap.size + 1, 0, none⟩) := hL 4 (by decide +kernel)
      have e23 : ρ (.tmp 23) = .agg #[.int .u64 (dgl (y) 1 : Nat), .int .u64 (dgl (y) 0 : Nat)] := hL 23 (by decide +kernel)
      have hD : OnSt f 0 0 w W := hC false hφ
      have hrh := hD.r.h
      have hrl := hD.r.l
      have hrt := hD.r.lt
      have hrf := hD.fr
      refine gUpon_of ((W.setCell ⟨w.heap.size + 1, 0, none⟩ (.int .u64 (dgl y 1 : Nat))).setCell ⟨w.heap.size + 1, 1, none⟩ (.int .u64 (dgl y 0 : Nat))) ?_ (fun _ => ?_)
      · simp [go_sem, hc, e4, e23, hrh, hrl, hrt, hrf, gUpon]
      refine ⟨fun c hc => ?_, fun u => (tbl_imp rfl (fun _ => val_imp) (tbl_imp rfl (fun _ => val_imp) (tbl_imp rfl (fun _ => val_imp) (tbl_imp rfl (fun _ => val_imp) (tbl_imp rfl (fun _ => val_imp) (tbl_imp rfl (fun _ => val_imp) (tbl_imp rfl (fun _ => val_imp) (tbl_imp rfl (fun _ => val_imp) (tbl_imp rfl (fun _ => val_imp) tbl_nil_imp)))))))))⟩
      have hc2 : (φ 7 || true) = c := hc
      rw [Bool.or_true] at hc2
      subst hc2
      exact hD.setR (dgl y 1) (dgl y 0)
    refine kSt rfl (fun φ hφ => gStep_run rfl (gRun_move 24 5 (.inr rfl) rfl (by decide +kernel) (fun v w h => h))) ?_
    refine kSt rfl (fun φ hφ => gStep_run rfl (gRun_const _ 6 (.inr rfl) rfl (fun w => rfl))) ?_
    exact kSt0
  · intro W hC
    refine gFi 18 rfl ?_
    rintro _ rfl
    refine gFi 19 rfl ?_
    rintro _ rfl
    refine gFi 20 rfl ?_
    rintro _ rfl
    refine gFi 21 rfl ?_
    rintro _ rfl
    refine gFi 22 rfl ?_
    rintro _ rfl
    refine gFi 23 rfl ?_
    rintro _ rfl
    refine gFi 24 rfl ?_
    rintro _ rfl
    refine gFiN rfl ?_
    refine gFi 5 rfl ?_
    rintro _ rfl
    refine gFi 6 rfl ?_
    rintro _ rfl
    refine gFi0 ?_
    simp only [List.drop_succ_cons, List.drop_zero, Act.put, List.setIfInBounds_toArray, List.set_cons_succ, List.set_cons_zero]
    have HS := hide (hC true rfl)
    clear hC h3
    have rh := HS.out.r.h
    have rl := HS.out.r.l
    simp only [cond_true] at rh rl
    have hrf := HS.out.fr
    have hlt := HS.out.lt
    have HB := hide HS.out.bel
    clear HS
    go_wp2
    exact bodyPost_ret (v := .tuple #[.agg #[.int .u64 (dgl (y) 1 : Nat), .int .u64 (dgl (y) 0 : Nat)], .int .i64 1, .bool true]) (by simp [results, Tryd.results38, go_sem, hlt, rh, rl]) rfl ⟨rfl, HB.out⟩
    

set_option maxHeartbeats 4000000 in
theorem nanof_Q (f r : Int) (ao : Option Addr) (n ca N b off a y : Nat) (w : World)
    (HIX : Hid (∀ w', CapF w.heap.size f w' → Below w.heap.size w w' → Calls Tryd.prog 87 #[.slice ao n ca, .func (.func 88) #[] #[.pointer (some ⟨w.heap.size, 0, none⟩)]] w' fun e w'' => e = .returned (.int .i64 r) ∧ Below w'.heap.size w' w''))
    (hr : r = (N : Int)) (hN : N < n) (hn9 : n ≤ 2 ^ 63 - 1)
    (HCX : Hid (∀ w', CapF w.heap.size f w' → Below w.heap.size w w' → Calls Tryd.prog 90 #[.slice ao n ca, .func (.func 91) #[] #[.pointer (some ⟨w.heap.size, 0, none⟩)]] w' fun e w'' => e = .returned (.bool false) ∧ Below w'.heap.size w' w''))
    (hao : ao = some ⟨b, off, none⟩) (hbl : b < w.heap.size) (hc0 : w.cell? ⟨b, off + N * 2, none⟩ = some (.int .u64 (dgl a 1 : Nat))) (hc1 : w.cell? ⟨b, off + N * 2 + 1, none⟩ = some (.int .u64 (dgl a 0 : Nat)))
    (HQU : Hid (∀ w, FmtG w → Calls Tryd.prog 42 #[.int .i64 f, .agg #[.int .u64 (dgl (a) 1 : Nat), .int .u64 (dgl (a) 0 : Nat)]] w fun e w' => e = .returned (.agg #[.int .u64 (dgl (y) 1 : Nat), .int .u64 (dgl (y) 0 : Nat)]) ∧ Below w.heap.size w w')) (hg : FmtG w) :
    Calls Tryd.prog 38 #[.int .i64 f, .slice ao n ca] w fun e w' => e = .returned (.tuple #[.agg #[.int .u64 (dgl (y) 1 : Nat), .int .u64 (dgl (y) 0 : Nat)], .int .i64 0, .bool true]) ∧ Below w.heap.size w w' := by
  have HS := hide (onSt_start f w hg)
  clear hg
  subst hr
  subst hao
  have HC0 := hide hc0
  have HC1 := hide hc1
  clear hc0 hc1
  have hNi : (N : Int) < (n : Int) := by omega
  go_enter Tryd.func38, Tryd.ntmps38
  go_upto_region 1 with fail
  refine wp_gen (fun W => OnSt f 0 0 w W) HS.out ?_
  clear HS
  rintro W1 h1
  have HS := hide h1
  clear h1
  go_wp2_with fail
  refine (HIX.out _ HS.out.cap HS.out.bel).mono ?_
  rintro e w1 ⟨rfl, hb1⟩
  replace HS := hide (HS.out.below hb1)
  clear hb1
  have hj0 : ¬ (N : Int) < 0 := by omega
  go_wp2_with fail
  refine (HCX.out _ HS.out.cap HS.out.bel).mono ?_
  rintro e w2 ⟨rfl, hb2⟩
  replace HS := hide (HS.out.below hb2)
  clear hb2 hj0
  go_upto_region 7 with fail
  refine wp_gen (fun W => OnSt f 0 0 w W) HS.out ?_
  clear HS
  rintro W3 h3
  refine wp_region_storeK 10 [7] [18, 19, 20, 21, 22, 23, 24, 5, 6] (fun bs => [(18, .val (.int .i64 f)), (19, .val (.slice (some ⟨b, off, none⟩) n ca)), (20, .val (.int .i64 (N : Nat))), (21, .val (.pointer (some ⟨b, off + N * 2, none⟩))), (22, .val (.agg #[.int .u64 (dgl (a) 1 : Nat), .int .u64 (dgl (a) 0 : Nat)])), (23, .val (.agg #[.int .u64 (dgl (y) 1 : Nat), .int .u64 (dgl (y) 0 : Nat)])), (24, .val (.int .i64 0)), (5, .val (.int .i64 0)), (6, .val (.bool true))])
    (fun bs W => ∀ c, bs.headD false = c → OnSt f (bif c then dgl y 1 else 0) (bif c then dgl y 0 else 0) w W) (fun bs => rfl) mixedOk (by kernel_rfl) (by kernel_rfl) (by kernel_rfl) (fun c hc => by subst hc; exact h3.below (Below.refl _ _).drew) (fun bs W W' h hb c hc => (h c hc).below hb) ?_ ?_
  · refine kSt rfl (fun φ hφ => gStep_run rfl ?_) ?_
    · intro ρ W hC hc hf hL
      have e2 : ρ (.tmp 2) = .pointer (some ⟨w.heap.size, 0, none⟩) := hL 2 (by decide +kernel)
      have hφ0 : φ 7 = false := hφ 7 (by simp) (by kernel_rfl)
      have hD : OnSt f 0 0 w W := hC false hφ0
      have l0 := hD.c
      simp [go_sem, hc, hf, e2, l0]
      exact ⟨Below.refl _ _, rfl⟩
    refine kSt rfl (fun φ hφ => gStep_run rfl (gRun_move 1 19 (.inl rfl) rfl (by decide +kernel) (fun v w h => h))) ?_
    refine kSt rfl (fun φ hφ => gStep_run rfl (gRun_move 7 20 (.inl rfl) rfl (by decide +kernel) (fun v w h => h))) ?_
    refine kSt rfl (fun φ hφ => gStep_run rfl ?_) ?_
    · intro ρ W hC hc hf hL
      have e19 : ρ (.tmp 19) = .slice (some ⟨b, off, none⟩) n ca := hL 19 (by decide +kernel)
      have e20 : ρ (.tmp 20) = .int .i64 (N : Nat) := hL 20 (by decide +kernel)
      simp [go_sem, hc, hf, e19, e20, hNi]
      exact ⟨Below.refl _ _, rfl⟩
    refine kSt rfl (fun φ hφ => gStep_run rfl ?_) ?_
    · intro ρ W hC hc hf hL
      have e21 : ρ (.tmp 21) = .pointer (some ⟨b, off + N * 2, none⟩) := hL 21 (by decide +kernel)
      have hφ0 : φ 7 = false := hφ 7 (by simp) (by kernel_rfl)
      have hD : OnSt f 0 0 w W := hC false hφ0
      have l0 := (hD.bel.cell (p := ⟨b, off + N * 2, none⟩) hbl).trans HC0.out
      have l1 := (hD.bel.cell (p := ⟨b, off + N * 2 + 1, none⟩) hbl).trans HC1.out
      simp [go_sem, hc, hf, e21, l0, l1]
      exact ⟨Below.refl _ _, rfl⟩
    refine kSt rfl (fun φ hφ => gStep_run rfl ?_) ?_
    · intro ρ W hC hc hf hL
      have e18 : ρ (.tmp 18) = .int .i64 f := hL 18 (by decide +kernel)
      have e22 : ρ (.tmp 22) = .agg #[.int .u64 (dgl (a) 1 : Nat), .int .u64 (dgl (a) 0 : Nat)] := hL 22 (by decide +kernel)
      have hφ0 : φ 7 = false := hφ 7 (by simp) (by kernel_rfl)
      have hD : OnSt f 0 0 w W := hC false hφ0
      simp [go_sem, hc, hf, e18, e22]
      refine (HQU.out W hD.g).mono ?_
      rintro e w' ⟨rfl, hb⟩
      exact ⟨_, rfl, by first | exact hb | (subst hb; exact Below.refl _ _), rfl⟩
    refine kSt rfl (fun φ hφ => gStep_run rfl (gRun_move 8 24 (.inl rfl) rfl (by decide +kernel) (fun v w h => h))) ?_
    refine kStS rfl ⟨rfl, rfl, ?_⟩ ?_
    · intro φ ρ W hφ hC hc hL
      have e4 : ρ (.tmp 4) = .pointer (some ⟨w.heap.size + 1, 0, none⟩) := hL 4 (by decide +kernel)
      have e23 : ρ (.tmp 23) = .agg #[.int .u64 (dgl (y) 1 : Nat), .int .u64 (dgl (y) 0 : Nat)] := hL 23 (by decide +kernel)
      have hD : OnSt f 0 0 w W := hC false hφ
      have hrh := hD.r.h
      have hrl := hD.r.l
      have hrt := hD.r.lt
      have hrf := hD.fr
      refine gUpon_of ((W.setCell ⟨w.heap.size + 1, 0, none⟩ (.int .u64 (dgl y 1 : Nat))).setCell ⟨w.heap.size + 1, 1, none⟩ (.int .u64 (dgl y 0 : Nat))) ?_ (fun _ => ?_)
      · simp [go_sem, hc, e4, e23, hrh, hrl, hrt, hrf, gUpon]
      refine ⟨fun c hc => ?_, fun u => (tbl_imp rfl (fun _ => val_imp) (tbl_imp rfl (fun _ => val_imp) (tbl_imp rfl (fun _ => val_imp) (tbl_imp rfl (fun _ => val_imp) (tbl_imp rfl (fun _ => val_imp) (tbl_imp rfl (fun _ => val_imp) (tbl_imp rfl (fun _ => val_imp) (tbl_imp rfl (fun _ => val_imp) (tbl_imp rfl (fun _ => val_imp) tbl_nil_imp)))))))))⟩
      have hc2 : (φ 7 || true) = c := hc
      rw [Bool.or_true] at hc2
      subst hc2
      exact hD.setR (dgl y 1) (dgl y 0)
    refine kSt rfl (fun φ hφ => gStep_run rfl (gRun_move 24 5 (.inr rfl) rfl (by decide +kernel) (fun v w h => h))) ?_
    refine kSt rfl (fun φ hφ => gStep_run rfl (gRun_const _ 6 (.inr rfl) rfl (fun w => rfl))) ?_
    exact kSt0
  · intro W hC
    refine gFi 18 rfl ?_
    rintro _ rfl
    refine gFi 19 rfl ?_
    rintro _ rfl
    refine gFi 20 rfl ?_
    rintro _ rfl
    refine gFi 21 rfl ?_
    rintro _ rfl
    refine gFi 22 rfl ?_
    rintro _ rfl
    refine gFi 23 rfl ?_
    rintro _ rfl
    refine gFi 24 rfl ?_
    rintro _ rfl
    refine gFiN rfl ?_
    refine gFi 5 rfl ?_
    rintro _ rfl
    refine gFi 6 rfl ?_
    rintro _ rfl
    refine gFi0 ?_
    simp only [List.drop_succ_cons, List.drop_zero, Act.put, List.setIfInBounds_toArray, List.set_cons_succ, List.set_cons_zero]
    have HS := hide (hC true rfl)
    clear hC h3
    have rh := HS.out.r.h
    have rl := HS.out.r.l
    simp only [cond_true] at rh rl
    have hrf := HS.out.fr
    have hlt := HS.out.lt
    have HB := hide HS.out.bel
    clear HS
    go_wp2
    exact bodyPost_ret (v := .tuple #[.agg #[.int .u64 (dgl (y) 1 : Nat), .int .u64 (dgl (y) 0 : Nat)], .int .i64 0, .bool true]) (by simp [results, Tryd.results38, go_sem, hlt, rh, rl]) rfl ⟨rfl, HB.out⟩
    
structure RoSt (x : Nat) (w W : World) : Prop where
  r : WB W (w.heap.size) (0) (0)
  fr : ∀ i, W.frozen? ⟨w.heap.size, i, none⟩ = false
  o : WB W (w.heap.size + 1) (dgl x 1) (dgl x 0)
  fo : ∀ i, W.frozen? ⟨w.heap.size + 1, i, none⟩ = false
  lt : w.heap.size + 1 < W.heap.size
  bel : Below w.heap.size w W
theorem RoSt.under {x : Nat} {w W W' : World} (h : RoSt x w W) {C : Nat} (hb : Below C W W') (hc : w.heap.size + 1 < C) : RoSt x w W' :=
  ⟨h.r.under hb (show w.heap.size < C by omega), fun i => (hb.frozen (p := ⟨w.heap.size, i, none⟩) (show w.heap.size < C by omega)).trans (h.fr i), h.o.under hb (show w.heap.size + 1 < C by omega), fun i => (hb.frozen (p := ⟨w.heap.size + 1, i, none⟩) (show w.heap.size + 1 < C by omega)).trans (h.fo i), Nat.lt_of_lt_of_le h.lt hb.size, h.bel.trans (hb.mono (by omega))⟩
theorem RoSt.below {x : Nat} {w W W' : World} (h : RoSt x w W) (hb : Below W.heap.size W W') : RoSt x w W' := h.under hb h.lt
theorem roSt_start (w : World) : RoSt 0 w ((w.alloc (.cells #[.int .u64 0, .int .u64 0] 28)).alloc (.cells #[.int .u64 0, .int .u64 0] 28)) :=
  ⟨⟨by simp [go_sem], by simp [go_sem], by simp; omega⟩, fun i => by simp [go_sem], ⟨by simp [go_sem, dgl_zero], by simp [go_sem, dgl_zero], by simp⟩, fun i => by simp [go_sem], by simp, below_trans (below_allocs _ _) (below_allocs _ _)⟩
theorem RoSt.set {x : Nat} {w W : World} (h : RoSt x w W) (y : Nat) : RoSt y w ((W.setCell ⟨w.heap.size + 1, 0, none⟩ (.int .u64 (dgl y 1 : Nat))).setCell ⟨w.heap.size + 1, 1, none⟩ (.int .u64 (dgl y 0 : Nat))) :=
  ⟨⟨by simpa [go_sem] using h.r.h, by simpa [go_sem] using h.r.l, by simpa [go_sem] using h.r.lt⟩, fun i => by simpa [go_sem] using h.fr i, wb_set h.o, fun i => by simpa [go_sem] using h.fo i, by simpa [go_sem] using h.lt, (h.bel.setCell (p := ⟨w.heap.size + 1, 0, none⟩) (Nat.le_succ _) _).setCell (p := ⟨w.heap.size + 1, 1, none⟩) (Nat.le_succ _) _⟩
def fl1 (b : Bool) : Int := bif b then 1 else 0

set_option maxHeartbeats 4000000 in
theorem rof_any (f : Int) (l : List Nat) (v : Value) (w : World) (hr : RdD w v l) (hl : ∀ i, dg l i < 2 ^ 128) :
    Calls Tryd.prog 39 #[.int .i64 f, v] w fun e w' => e = .returned (.tuple #[.agg #[.int .u64 (dgl ((ofR f l).1) 1 : Nat), .int .u64 (dgl ((ofR f l).1) 0 : Nat)], .int .i64 (fl1 (ofR f l).2.1), .bool (ofR f l).2.2]) ∧ Below w.heap.size w w' := by
  obtain ⟨ao, ca, rfl, hca, hma, hra⟩ := hr
  unfold maxLen at hma
  have HRA := hide hra
  have HL := hide hl
  have HS0 := hide (roSt_start w)
  have HDR : Hid (∀ c, c < l.length → ofR f (l.drop c) = ofR f (dg l c :: l.drop (c + 1))) := fun c h => by rw [drop_dg l c h]
  have HE : Hid (ofR f (l.drop l.length) = (0, false, false)) := by unfold Hid; rw [List.drop_length]; rfl
  have HZ : Hid (ofR f (l.drop 0) = ofR f l) := rfl
  clear hra hl
  generalize hn : l.length = n at *
  have hnn : (n : Int) ≤ 9223372036854775807 := by omega
  clear hn
  have hw1 : IntKind.i64.wrap ((n : Int) - 1) = (n : Int) - 1 := by rw [IntKind.wrap_i64]; omega
  go_enter Tryd.func39, Tryd.ntmps39
  go_wp2
  go_loopw [8, 9, 10] (fun s t i wr => ∃ c : Nat, c ≤ n ∧ i = .int .i64 ((c : Int) - 1) ∧ ∃ (x : Nat) (p q : Bool), Hid (ofR f (l.drop c) = (x, p, q)) ∧ s = .int .i64 (fl1 p) ∧ t = .bool q ∧ Hid (RoSt x w wr))
    (fun _ _ i _ => (intOf i + 1).toNat)
  case atStart => exact ⟨n, Nat.le_refl _, rfl, 0, false, false, HE, rfl, rfl, HS0⟩
  case round =>
    clear HS0 HE hw1
    obtain ⟨c, hc, rfl, x, p, q, HI, rfl, rfl, hst⟩ := hrel
    by_cases h0 : c = 0
    · subst h0
      have HX := hide (HZ.out.symm.trans HI.out)
      have rh := hst.out.r.h
      have rl := hst.out.r.l
      have oh := hst.out.o.h
      have ol := hst.out.o.l
      have hrf := hst.out.fr
      have hlt := hst.out.r.lt
      have HB := hide hst.out.bel
      clear hst HI HDR HZ
      have hj : ¬ (0 : Int) ≤ ((0 : Nat) : Int) - 1 := by omega
      go_wp2
      exact bodyPost_ret (v := .tuple #[.agg #[.int .u64 (dgl (x) 1 : Nat), .int .u64 (dgl (x) 0 : Nat)], .int .i64 (fl1 p), .bool q]) (by simp [results, Tryd.results39, go_sem, hlt, rh, rl]) rfl ⟨by rw [HX.out], (HB.out.setCell (p := ⟨w.heap.size, 0, none⟩) (Nat.le_refl _) _).setCell (p := ⟨w.heap.size, 1, none⟩) (Nat.le_refl _) _⟩
    · obtain ⟨k, rfl⟩ : ∃ k, c = k + 1 := ⟨c - 1, by omega⟩
      rw [show ((k + 1 : Nat) : Int) - 1 = (k : Int) by omega]
      have hk : k < n := hc
      have hki : (k : Int) < (n : Int) := by omega
      have hj : (0 : Int) ≤ (k : Int) := by omega
      rcases unhide HRA with hcz | ⟨b, off, rfl, hbl, hcell⟩
      · omega
      · have HK0 := hide (hcell k hk).1
        have HK1 := hide (hcell k hk).2
        clear hcell
        have HXL := hide (HL.out k)
        have HST := hide ((HDR.out k hk).trans (ofR_step f _ _))
        rw [HI.out] at HST
        clear h0 HDR HI
        generalize dg l k = a at *
        have HCL := hide (fun w => refCls_u f a HXL.out w)
        have HQU := hide (fun w => rquieted_u f a HXL.out w)
        have hsg : (((clsU f a : Nat) : Int) == 1) = sgB f a := by
          unfold sgB; rw [Bool.eq_iff_iff, beq_iff_eq, decide_eq_true_iff]; omega
        have hn2 : nanB f a = (sgB f a || (((clsU f a : Nat) : Int) == 2)) := by
          unfold nanB sgB
          congr 1
          rw [Bool.eq_iff_iff, beq_iff_eq, decide_eq_true_iff]; omega
        rw [hn2] at HST
        generalize quU f a = y at *
        generalize sgB f a = sg at *
        generalize clsU f a = cl at *
        clear hn2 HXL
        have hck0 := (hst.out.bel.cell (p := ⟨b, off + k * 2, none⟩) hbl).trans HK0.out
        have hck1 := (hst.out.bel.cell (p := ⟨b, off + k * 2 + 1, none⟩) hbl).trans HK1.out
        go_wp2_with fail
        refine (HCL.out _).mono ?_
        rintro e w1 ⟨rfl, hb1⟩
        have HS := hide (hst.out.below hb1)
        clear hst hb1 hck0 hck1
        have hw1 : IntKind.i64.wrap ((k : Int) - 1) = (k : Int) - 1 := by rw [IntKind.wrap_i64]; omega
        cases hsgv : sg
        · rw [hsgv] at hsg HST
          cases hqv : ((cl : Int) == 2)
          · rw [hqv] at HST
            go_wp2
            go_roundw
            case rel => exact ⟨k, by omega, rfl, x, p, q, hide (HST.out), rfl, rfl, HS⟩
            case measure => first | (simp [intOf]; done) | (simp [intOf]; omega)
          · rw [hqv] at HST
            have hck0 := (HS.out.bel.cell (p := ⟨b, off + k * 2, none⟩) hbl).trans HK0.out
            have hck1 := (HS.out.bel.cell (p := ⟨b, off + k * 2 + 1, none⟩) hbl).trans HK1.out
            go_wp2_with fail
            refine (HQU.out _).mono ?_
            rintro e w2 ⟨rfl, hb2⟩
            replace HS := hide (HS.out.below hb2)
            clear hb2 hck0 hck1
            have oh := HS.out.o.h
            have ol := HS.out.o.l
            have of_ := HS.out.fo
            have ot := HS.out.o.lt
            have HS2 := hide (HS.out.set y)
            clear HS
            go_wp2
            go_roundw
            case rel => exact ⟨k, by omega, rfl, y, p, true, hide (HST.out), rfl, rfl, HS2⟩
            case measure => first | (simp [intOf]; done) | (simp [intOf]; omega)
        · rw [hsgv] at hsg HST
          have hck0 := (HS.out.bel.cell (p := ⟨b, off + k * 2, none⟩) hbl).trans HK0.out
          have hck1 := (HS.out.bel.cell (p := ⟨b, off + k * 2 + 1, none⟩) hbl).trans HK1.out
          go_wp2_with fail
          refine (HQU.out _).mono ?_
          rintro e w2 ⟨rfl, hb2⟩
          replace HS := hide (HS.out.below hb2)
          clear hb2 hck0 hck1
          have oh := HS.out.o.h
          have ol := HS.out.o.l
          have of_ := HS.out.fo
          have ot := HS.out.o.lt
          have HS2 := hide (HS.out.set y)
          clear HS
          go_wp2
          go_roundw
          case rel => exact ⟨k, by omega, rfl, y, true, true, hide (HST.out), rfl, rfl, HS2⟩
          case measure => first | (simp [intOf]; done) | (simp [intOf]; omega)

end Go.Proofs.YtpcjdllijkjdkaaDoor

/- Contracts: nan.Of and None at any format; law10.awake. -/
set_option linter.unusedVariables false
set_option linter.unusedSimpArgs false
set_option maxRecDepth 8000
namespace Go.Proofs.YtpcjdllijkjdkaaDoor
open Go.RowKit Plain

theorem none_u (f : Int) (w : World) (hg : FmtG w) : Calls Tryd.prog 40 #[.int .i64 f] w fun e w' => e = .returned (.tuple #[.agg #[.int .u64 (dgl (nanW f) 1 : Nat), .int .u64 (dgl (nanW f) 0 : Nat)], .int .i64 (if 1 ≤ f ∧ f ≤ 4 then 1 else 0)]) ∧ Below w.heap.size w w' := by
  by_cases h : 1 ≤ f ∧ f ≤ 4
  · rw [if_pos h]
    exact none_Y f (kU f) (nanW f) (fun w hg => of_u f h w hg) (fun w hg => nan_u f w hg) w hg
  · rw [if_neg h, show nanW f = 0 from tU_none f (by omega) _ _ _ _ _, dgl_zero, dgl_zero]
    exact none_N f (fun _ => 0) 0 (fun w hg => of_none f (by omega) w) w hg
theorem rnan_u (f : Int) (h : 1 ≤ f ∧ f ≤ 4) (w : World) : Calls Tryd.prog 41 #[.int .i64 f] w fun e w' => e = .returned (.agg #[.int .u64 (dgl (nanW f) 1 : Nat), .int .u64 (dgl (nanW f) 0 : Nat)]) ∧ Below w.heap.size w w' := by
  rcases f_cases f with rfl | rfl | rfl | rfl | h0
  · exact rnan_1 w
  · exact rnan_2 w
  · exact rnan_3 w
  · exact rnan_4 w
  · omega
theorem nanof_any (f : Int) (l : List Nat) (v : Value) (w : World) (hr : RdD w v l) (hl : ∀ i, dg l i < 2 ^ 128) (hg : FmtG w) :
    Calls Tryd.prog 38 #[.int .i64 f, v] w fun e w' => e = .returned (.tuple #[.agg #[.int .u64 (dgl ((ofR f l).1) 1 : Nat), .int .u64 (dgl ((ofR f l).1) 0 : Nat)], .int .i64 (fl1 (ofR f l).2.1), .bool (ofR f l).2.2]) ∧ Below w.heap.size w w' := by
  have hr0 := hr
  obtain ⟨ao, ca, rfl, hca, hma, hra⟩ := hr0
  unfold maxLen at hma
  have HP1 : Hid (∀ i, i < l.length → ∀ w', CapF w.heap.size f w' → Calls Tryd.prog 88 (#[.agg #[.int .u64 (dgl (dg l i) 1 : Nat), .int .u64 (dgl (dg l i) 0 : Nat)]] ++ #[.pointer (some ⟨w.heap.size, 0, none⟩)]) w' fun e w'' => e = .returned (.bool (nanB f (dg l i))) ∧ Below w'.heap.size w' w'') :=
    fun i _ w' hc => nanC1_any w.heap.size f (dg l i) 0 (nanB f (dg l i)) (fun w hg => cnan_u f (dg l i) (hl i) w hg) w' hc
  have HP2 : Hid (∀ i, i < l.length → ∀ w', CapF w.heap.size f w' → Calls Tryd.prog 91 (#[.agg #[.int .u64 (dgl (dg l i) 1 : Nat), .int .u64 (dgl (dg l i) 0 : Nat)]] ++ #[.pointer (some ⟨w.heap.size, 0, none⟩)]) w' fun e w'' => e = .returned (.bool (sgB f (dg l i))) ∧ Below w'.heap.size w' w'') :=
    fun i _ w' hc => nanC2_any w.heap.size f (dg l i) (clsU f (dg l i)) (sgB f (dg l i)) (fun w hg => cof_u f (dg l i) (hl i) w hg) (by unfold sgB; rw [Bool.eq_iff_iff, beq_iff_eq, decide_eq_true_iff]; omega) w' hc
  have HIX := fun w' (hc : CapF w.heap.size f w') (hb : Below w.heap.size w w') => idx_any l _ 88 _ (enters_of Tryd.func88 (by kernel_rfl) rfl) (CapF w.heap.size f) (fun _ _ h hb => h.below hb) (nanB f) HP1 (fi1 (nanB f) l) (fi1_le _ l) (fi1_lo _ l) (fi1_hi _ l) _ rfl w' (hr.below hb) hc
  have HCX := fun w' (hc : CapF w.heap.size f w') (hb : Below w.heap.size w w') => cont_any (fun w' => CapF w.heap.size f w' ∧ RdD w' (.slice ao l.length ca) l) (.slice ao l.length ca) _ _ _ (fun w' h => idx_any l _ 91 _ (enters_of Tryd.func91 (by kernel_rfl) rfl) (CapF w.heap.size f) (fun _ _ h hb => h.below hb) (sgB f) HP2 (fi1 (sgB f) l) (fi1_le _ l) (fi1_lo _ l) (fi1_hi _ l) _ rfl w' h.2 h.1) rfl w' ⟨hc, hr.below hb⟩
  have hs : decide ((0 : Int) ≤ if fi1 (sgB f) l < l.length then ((fi1 (sgB f) l : Nat) : Int) else -1) = (ofR f l).2.1 := by
    rw [ofR_sig, Bool.eq_iff_iff, decide_eq_true_iff, decide_eq_true_iff]
    split <;> omega
  rw [hs] at HCX
  obtain ⟨n1, n2⟩ := ofR_nan f l
  by_cases h : fi1 (nanB f) l < l.length
  · rw [if_pos h] at HIX n2
    rw [decide_eq_true h] at n1
    rw [n1, n2]
    rcases hra with hz | ⟨b, off, rfl, hbl, hcell⟩
    · omega
    · obtain ⟨c0, c1⟩ := hcell _ h
      have HQ := fun w hg => quieted_u f (dg l (fi1 (nanB f) l)) (hl _) w hg
      cases hp : (ofR f l).2.1
      · rw [hp] at HCX
        exact nanof_Q f _ _ l.length ca (fi1 (nanB f) l) b off (dg l (fi1 (nanB f) l)) (quU f (dg l (fi1 (nanB f) l))) w HIX rfl h (by omega) HCX rfl hbl c0 c1 HQ hg
      · rw [hp] at HCX
        exact nanof_S f _ _ l.length ca (fi1 (nanB f) l) b off (dg l (fi1 (nanB f) l)) (quU f (dg l (fi1 (nanB f) l))) w HIX rfl h (by omega) HCX rfl hbl c0 c1 HQ hg
  · rw [if_neg h] at HIX n2
    rw [decide_eq_false h] at n1
    rw [n1, n2, ofR_sub h, dgl_zero, dgl_zero]
    exact nanof_N f _ ao l.length ca 0 0 0 0 0 w HIX rfl hg
theorem aw10_rd (w : World) (e : TypeId) : RdD (w.alloc (.cells #[.int .u64 0, .int .u64 31745, .int .u64 0, .int .u64 32261] e)) (.slice (some ⟨w.heap.size, 0, none⟩) 2 2) [31745, 32261] := by
  refine ⟨_, 2, rfl, Nat.le_refl _, by simp [maxLen], .inr ⟨w.heap.size, 0, rfl, by simp, fun i hi => ?_⟩⟩
  match i, hi with
  | 0, _ => exact ⟨by simp [go_sem, dg, dgl], by simp [go_sem, dg, dgl]⟩
  | 1, _ => exact ⟨by simp [go_sem, dg, dgl], by simp [go_sem, dg, dgl]⟩
theorem aw10_of (v : Value) (w : World) (hr : RdD w v [31745, 32261]) (hg : FmtG w) : Calls Tryd.prog 38 #[.int .i64 1, v] w fun e w' => e = .returned (.tuple #[.agg #[.int .u64 0, .int .u64 32257], .int .i64 1, .bool true]) ∧ Below w.heap.size w w' := by
  have h := nanof_any 1 [31745, 32261] v w hr (fun i => by
    match i with
    | 0 => decide
    | 1 => decide
    | n + 2 => rw [getD_past _ _ (by simp)]; decide) hg
  rw [show ofR 1 [31745, 32261] = (32257, true, true) by decide +kernel] at h
  exact h
set_option maxHeartbeats 1000000 in
theorem awake10_any (w : World) (hg : FmtG w) : Calls Tryd.prog 37 #[] w fun e w' => e = .returned (.bool true) ∧ Below w.heap.size w w' := by
  have hq := fun w => wordEq (a := 32257) (b := 32257) (by decide) (by decide) w
  rw [decide_eq_true rfl, show dgl 32257 1 = 0 by decide +kernel, show dgl 32257 0 = 32257 by decide +kernel] at hq
  have hq2 : ∀ w, (Op.equalIn 10000 28 (.agg #[.int .u64 0, .int .u64 32257]) (.agg #[.int .u64 0, .int .u64 32257])).run Tryd.prog w = .ok true w := hq
  have HG := hide hg
  clear hg hq
  go_enter Tryd.func37, Tryd.ntmps37
  go_wp2_with fail
  refine (aw10_of _ _ (aw10_rd _ _) (HG.out.below (below_allocs _ _))).mono ?_
  rintro e w1 ⟨rfl, hb1⟩
  have HB := hide (below_trans (below_allocs _ _) hb1)
  clear hb1
  go_upto_region 2 with fail
  refine wp_gen (fun W => WB W w1.heap.size 0 32257 ∧ Below w.heap.size w W) ⟨(show WB _ _ 0 32257 from wb_new2 w1 0 32257 28), below_trans HB.out (below_allocs _ _)⟩ ?_
  clear HB HG
  generalize w1.heap.size = p1
  rintro W1 ⟨g1, g2⟩
  have l0 := g1.h
  have l1 := g1.l
  have HB := hide g2
  clear g1 g2
  go_wp2
  go_ret
  exact ⟨rfl, HB.out⟩

end Go.Proofs.YtpcjdllijkjdkaaDoor

