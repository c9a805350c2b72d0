/- Contracts and laws: SrqC, SrqD, SrqE, SrqF, SrqG, SrqH, SrqI. -/
import Derived.Test.YtbngaajhdaciaaaDoorPartAM
import Derived.Test.YtbngaajhdaciaaaDoorPartAP
import Derived.Test.YtbngaajhdaciaaaDoorPartAS
import Derived.Test.YtbngaajhdaciaaaDoorPartAT
import Derived.Test.YtbngaajhdaciaaaDoorPartAR
import Derived.Test.YtbngaajhdaciaaaDoorPartAU
/- Contracts: what srt.walk hands on, a step: its closure. -/
set_option linter.unusedVariables false
set_option linter.unusedSimpArgs false
set_option maxRecDepth 8000
namespace Go.Proofs.YtbngaajhdaciaaaDoor
open Go.RowKit Plain

/-- Outside the blocks from B on, up to C, the world is as it was. -/
structure ApartC (B C : Nat) (w w' : World) : Prop where
  os : w'.os = w.os
  tape : w'.tape = w.tape
  output : w'.output = w.output
  size : w.heap.size ≤ w'.heap.size
  block : ∀ k, k < w.heap.size → (k < B ∨ C ≤ k) → w'.heap[k]? = w.heap[k]?
/-- The blocks from B on, up to C, are as they were. -/
structure KeptC (B C : Nat) (w w' : World) : Prop where
  size : w.heap.size ≤ w'.heap.size
  block : ∀ k, B ≤ k → k < C → w'.heap[k]? = w.heap[k]?
section
variable {B C : Nat} {w w' : World}
theorem apartC_of (h : Below w.heap.size w w') : ApartC B C w w' := ⟨h.os, h.tape, h.output, h.size, fun k hk _ => h.block k hk⟩
theorem ApartC.then {w2 : World} (h : ApartC B C w w') (hb : Below w'.heap.size w' w2) : ApartC B C w w2 :=
  ⟨hb.os.trans h.os, hb.tape.trans h.tape, hb.output.trans h.output, Nat.le_trans h.size hb.size, fun k hk ho => (hb.block k (Nat.lt_of_lt_of_le hk h.size)).trans (h.block k hk ho)⟩
theorem apartC_only {p : Nat} (h : Only2 p p w w') (h1 : B ≤ p) (h2 : p < C) : ApartC B C w w' := ⟨h.os, h.tape, h.output, h.size, fun k hk ho => h.block k hk (by omega) (by omega)⟩
theorem ApartC.cell (h : ApartC B C w w') {b i : Nat} (hb : b < w.heap.size) (ho : b < B ∨ C ≤ b) : w'.cell? ⟨b, i, none⟩ = w.cell? ⟨b, i, none⟩ := World.cell?_of_block (w := w) (h.block b hb ho)
theorem ApartC.frozen (h : ApartC B C w w') {b i : Nat} (hb : b < w.heap.size) (ho : b < B ∨ C ≤ b) : w'.frozen? ⟨b, i, none⟩ = w.frozen? ⟨b, i, none⟩ := World.frozen?_of_block (w := w) (h.block b hb ho)
theorem ApartC.under {D : Nat} {w0 : World} (h : ApartC B C w w') (hb : Below D w0 w) (hc : D ≤ B) (hw : D ≤ w0.heap.size) : Below D w0 w' :=
  ⟨h.os.trans hb.os, h.tape.trans hb.tape, h.output.trans hb.output, Nat.le_trans hb.size h.size, fun k hk => (h.block k (Nat.lt_of_lt_of_le hk (Nat.le_trans hw hb.size)) (.inl (by omega))).trans (hb.block k hk)⟩
theorem apartC_set8 (W : World) (b : Nat) (h1 : B ≤ b) (h2 : b < C) (f : Nat → Nat) : ApartC B C W ((((((((W.setCell ⟨b, 0, none⟩ (.int .u64 (f 0 : Nat))).setCell ⟨b, 1, none⟩ (.int .u64 (f 1 : Nat))).setCell ⟨b, 2, none⟩ (.int .u64 (f 2 : Nat))).setCell ⟨b, 3, none⟩ (.int .u64 (f 3 : Nat))).setCell ⟨b, 4, none⟩ (.int .u64 (f 4 : Nat))).setCell ⟨b, 5, none⟩ (.int .u64 (f 5 : Nat))).setCell ⟨b, 6, none⟩ (.int .u64 (f 6 : Nat))).setCell ⟨b, 7, none⟩ (.int .u64 (f 7 : Nat))) :=
  apartC_only (p := b) (Only2.setp8 ⟨rfl, rfl, rfl, Nat.le_refl _, fun k hk _ _ => rfl⟩ f) h1 h2
theorem KeptC.cell (h : KeptC B C w w') {b i : Nat} (h1 : B ≤ b) (h2 : b < C) : w'.cell? ⟨b, i, none⟩ = w.cell? ⟨b, i, none⟩ := World.cell?_of_block (w := w) (h.block b h1 h2)
theorem KeptC.frozen (h : KeptC B C w w') {b i : Nat} (h1 : B ≤ b) (h2 : b < C) : w'.frozen? ⟨b, i, none⟩ = w.frozen? ⟨b, i, none⟩ := World.frozen?_of_block (w := w) (h.block b h1 h2)
theorem KeptC.lies (h : KeptC B C w w') {b : Nat} {f : Nat → Nat} (hl : LiesF w b f) (h1 : B ≤ b) (h2 : b < C) : LiesF w' b f :=
  ⟨fun i hi => (h.cell h1 h2).trans (hl.1 i hi), Nat.lt_of_lt_of_le hl.2 h.size⟩
end
theorem TabG.only {p : Nat} {w w' : World} (hg : TabG w) (h : Only2 p p w w') (hp : 0 < p) : TabG w' :=
  ⟨fun i hi => (h.cell hg.lt (by omega) (by omega)).trans (hg.c i hi), Nat.lt_of_lt_of_le hg.lt h.size⟩
theorem TabG.set8 {W : World} (hg : TabG W) (p : Nat) (hp : 0 < p) (f : Nat → Nat) : TabG ((((((((W.setCell ⟨p, 0, none⟩ (.int .u64 (f 0 : Nat))).setCell ⟨p, 1, none⟩ (.int .u64 (f 1 : Nat))).setCell ⟨p, 2, none⟩ (.int .u64 (f 2 : Nat))).setCell ⟨p, 3, none⟩ (.int .u64 (f 3 : Nat))).setCell ⟨p, 4, none⟩ (.int .u64 (f 4 : Nat))).setCell ⟨p, 5, none⟩ (.int .u64 (f 5 : Nat))).setCell ⟨p, 6, none⟩ (.int .u64 (f 6 : Nat))).setCell ⟨p, 7, none⟩ (.int .u64 (f 7 : Nat))) :=
  hg.only (p := p) (Only2.setp8 ⟨rfl, rfl, rfl, Nat.le_refl _, fun k hk _ _ => rfl⟩ f) hp

/-- What a step goes by: the row, what is left, the divisor. -/
structure StpA (i : Int) (x D p9 p11 p5 : Nat) (w W : World) : Prop where
  c9 : W.cell? ⟨p9, 0, none⟩ = some (.int .i64 i)
  h9 : p9 < W.heap.size
  l11 : LiesF W p11 (dgl x)
  f11 : ∀ k, W.frozen? ⟨p11, k, none⟩ = false
  l5 : LiesF W p5 (dgl D)
  g : TabG W
  on : Only2 p11 p11 w W
section
variable {i : Int} {x D p9 p11 p5 : Nat} {w W W' : World}
theorem StpA.below (h : StpA i x D p9 p11 p5 w W) (hb : Below W.heap.size W W') : StpA i x D p9 p11 p5 w W' :=
  ⟨(hb.cell (p := ⟨p9, 0, none⟩) h.h9).trans h.c9, Nat.lt_of_lt_of_le h.h9 hb.size, h.l11.below hb, fun k => (hb.frozen (p := ⟨p11, k, none⟩) h.l11.2).trans (h.f11 k), h.l5.below hb, h.g.below hb, h.on.then hb⟩
theorem StpA.set8 (h : StpA i x D p9 p11 p5 w W) (z : Nat) (h1 : p9 ≠ p11) (h2 : p5 ≠ p11) (h3 : 0 < p11) : StpA i z D p9 p11 p5 w ((((((((W.setCell ⟨p11, 0, none⟩ (.int .u64 (dgl z 0 : Nat))).setCell ⟨p11, 1, none⟩ (.int .u64 (dgl z 1 : Nat))).setCell ⟨p11, 2, none⟩ (.int .u64 (dgl z 2 : Nat))).setCell ⟨p11, 3, none⟩ (.int .u64 (dgl z 3 : Nat))).setCell ⟨p11, 4, none⟩ (.int .u64 (dgl z 4 : Nat))).setCell ⟨p11, 5, none⟩ (.int .u64 (dgl z 5 : Nat))).setCell ⟨p11, 6, none⟩ (.int .u64 (dgl z 6 : Nat))).setCell ⟨p11, 7, none⟩ (.int .u64 (dgl z 7 : Nat))) :=
  ⟨by have := h.c9; simp [go_sem, this, h1], by simpa using h.h9, set8_same W p11 (dgl z) (dgl x) h.l11, fun k => by simpa [go_sem] using h.f11 k, lies_ne h.l5 h2, h.g.set8 _ h3 _, h.on.setp8 _⟩
end

set_option maxHeartbeats 4000000 in
theorem stepA_walk (place : Nat) (i y k : Int) (x D a s t r p9 p11 p5 : Nat) (ov : Bool) (hp : place ≤ 300) (hn1 : p9 ≠ p11) (hn2 : p5 ≠ p11) (hn3 : 0 < p11)
    (HSA : Hid (∀ w, Calls Tryd.prog 62 #[.agg #[.int .u64 (dgl (x) 0 : Nat), .int .u64 (dgl (x) 1 : Nat), .int .u64 (dgl (x) 2 : Nat), .int .u64 (dgl (x) 3 : Nat), .int .u64 (dgl (x) 4 : Nat), .int .u64 (dgl (x) 5 : Nat), .int .u64 (dgl (x) 6 : Nat), .int .u64 (dgl (x) 7 : Nat)], .int .i64 ((place + 124 : Nat) : Int)] w fun e w' => e = .returned (.agg #[.int .u64 (dgl (a) 0 : Nat), .int .u64 (dgl (a) 1 : Nat), .int .u64 (dgl (a) 2 : Nat), .int .u64 (dgl (a) 3 : Nat), .int .u64 (dgl (a) 4 : Nat), .int .u64 (dgl (a) 5 : Nat), .int .u64 (dgl (a) 6 : Nat), .int .u64 (dgl (a) 7 : Nat)]) ∧ Below w.heap.size w w'))
    (HWH : Hid (∀ w, Calls Tryd.prog 61 #[.agg #[.int .u64 (dgl (a) 0 : Nat), .int .u64 (dgl (a) 1 : Nat), .int .u64 (dgl (a) 2 : Nat), .int .u64 (dgl (a) 3 : Nat), .int .u64 (dgl (a) 4 : Nat), .int .u64 (dgl (a) 5 : Nat), .int .u64 (dgl (a) 6 : Nat), .int .u64 (dgl (a) 7 : Nat)]] w fun e w' => e = .returned (.int .i64 y) ∧ Below w.heap.size w w'))
    (HDG : Hid (∀ w, TabG w → Calls Tryd.prog 60 #[.int .i64 i, .int .i64 y] w fun e w' => e = .returned (.tuple #[.int .i64 k, .bool true]) ∧ Below w.heap.size w w'))
    (HSH : Hid (∀ w, Calls Tryd.prog 29 #[.agg #[.int .u64 (dgl (D) 0 : Nat), .int .u64 (dgl (D) 1 : Nat), .int .u64 (dgl (D) 2 : Nat), .int .u64 (dgl (D) 3 : Nat), .int .u64 (dgl (D) 4 : Nat), .int .u64 (dgl (D) 5 : Nat), .int .u64 (dgl (D) 6 : Nat), .int .u64 (dgl (D) 7 : Nat)], .int .i64 (place : Nat)] w fun e w' => e = .returned (.agg #[.int .u64 (dgl (s) 0 : Nat), .int .u64 (dgl (s) 1 : Nat), .int .u64 (dgl (s) 2 : Nat), .int .u64 (dgl (s) 3 : Nat), .int .u64 (dgl (s) 4 : Nat), .int .u64 (dgl (s) 5 : Nat), .int .u64 (dgl (s) 6 : Nat), .int .u64 (dgl (s) 7 : Nat)]) ∧ Below w.heap.size w w'))
    (HTM : Hid (∀ w, Calls Tryd.prog 63 #[.agg #[.int .u64 (dgl (s) 0 : Nat), .int .u64 (dgl (s) 1 : Nat), .int .u64 (dgl (s) 2 : Nat), .int .u64 (dgl (s) 3 : Nat), .int .u64 (dgl (s) 4 : Nat), .int .u64 (dgl (s) 5 : Nat), .int .u64 (dgl (s) 6 : Nat), .int .u64 (dgl (s) 7 : Nat)], .int .i64 k] w fun e w' => e = .returned (.agg #[.int .u64 (dgl (t) 0 : Nat), .int .u64 (dgl (t) 1 : Nat), .int .u64 (dgl (t) 2 : Nat), .int .u64 (dgl (t) 3 : Nat), .int .u64 (dgl (t) 4 : Nat), .int .u64 (dgl (t) 5 : Nat), .int .u64 (dgl (t) 6 : Nat), .int .u64 (dgl (t) 7 : Nat)]) ∧ Below w.heap.size w w'))
    (HSB : Hid (∀ w, Calls Tryd.prog 26 #[.agg #[.int .u64 (dgl (x) 0 : Nat), .int .u64 (dgl (x) 1 : Nat), .int .u64 (dgl (x) 2 : Nat), .int .u64 (dgl (x) 3 : Nat), .int .u64 (dgl (x) 4 : Nat), .int .u64 (dgl (x) 5 : Nat), .int .u64 (dgl (x) 6 : Nat), .int .u64 (dgl (x) 7 : Nat)], .agg #[.int .u64 (dgl (t) 0 : Nat), .int .u64 (dgl (t) 1 : Nat), .int .u64 (dgl (t) 2 : Nat), .int .u64 (dgl (t) 3 : Nat), .int .u64 (dgl (t) 4 : Nat), .int .u64 (dgl (t) 5 : Nat), .int .u64 (dgl (t) 6 : Nat), .int .u64 (dgl (t) 7 : Nat)]] w fun e w' => e = .returned (.tuple #[.agg #[.int .u64 (dgl (r) 0 : Nat), .int .u64 (dgl (r) 1 : Nat), .int .u64 (dgl (r) 2 : Nat), .int .u64 (dgl (r) 3 : Nat), .int .u64 (dgl (r) 4 : Nat), .int .u64 (dgl (r) 5 : Nat), .int .u64 (dgl (r) 6 : Nat), .int .u64 (dgl (r) 7 : Nat)], .bool ov]) ∧ Below w.heap.size w w')) (w : World) (hS : StpA i x D p9 p11 p5 w w) :
    Calls Tryd.prog 59 #[.int .i64 (place : Nat), .pointer (some ⟨p9, 0, none⟩), .pointer (some ⟨p11, 0, none⟩), .pointer (some ⟨p5, 0, none⟩)] w fun e w' => e = .returned (.int .i64 k) ∧ StpA i r D p9 p11 p5 w w' := by
  have HS := hide hS
  have hpl : IntKind.i64.wrap (((place : Nat) : Int) + 124) = ((place + 124 : Nat) : Int) := by rw [IntKind.wrap_i64]; omega
  have HN1 := hide hn1
  have HN2 := hide hn2
  have HN3 := hide hn3
  clear hS hn1 hn2 hn3
  go_enter Tryd.func59, Tryd.ntmps59
  go_upto_region 1 with fail
  refine wp_region_grow 12 [(9, .val (.int .i64 i)), (10, .val (.agg #[.int .u64 (dgl (x) 0 : Nat), .int .u64 (dgl (x) 1 : Nat), .int .u64 (dgl (x) 2 : Nat), .int .u64 (dgl (x) 3 : Nat), .int .u64 (dgl (x) 4 : Nat), .int .u64 (dgl (x) 5 : Nat), .int .u64 (dgl (x) 6 : Nat), .int .u64 (dgl (x) 7 : Nat)])), (11, .val (.int .i64 (place : Nat))), (12, .val (.int .i64 ((place + 124 : Nat) : Int))), (13, .val (.agg #[.int .u64 (dgl (a) 0 : Nat), .int .u64 (dgl (a) 1 : Nat), .int .u64 (dgl (a) 2 : Nat), .int .u64 (dgl (a) 3 : Nat), .int .u64 (dgl (a) 4 : Nat), .int .u64 (dgl (a) 5 : Nat), .int .u64 (dgl (a) 6 : Nat), .int .u64 (dgl (a) 7 : Nat)])), (14, .val (.int .i64 y)), (15, .val (.tuple #[.int .i64 k, .bool true])), (8, .val (.tuple #[.int .i64 k, .bool true])), (16, .val (.int .i64 k)), (17, .val (.bool true)), (6, .val (.int .i64 k)), (7, .val (.bool true))]
    (fun W => StpA i x D p9 p11 p5 w W) mixedOk (by kernel_rfl) (by kernel_rfl) (HS.out.below (Below.refl _ _).drew) (fun W W' h hb => h.below hb) ?_ ?_
  · refine gSt (gStep_run rfl ?_) ?_
    · intro ρ W hC hc hf hL
      have e1 : ρ (.tmp 1) = .pointer (some ⟨p9, 0, none⟩) := hL 1 (by decide +kernel)
      have hc9 := hC.c9
      simp [go_sem, hc, hf, e1, hc9]
      exact ⟨Below.refl _ _, rfl⟩
    refine gSt (gStep_run rfl ?_) ?_
    · intro ρ W hC hc hf hL
      have e2 : ρ (.tmp 2) = .pointer (some ⟨p11, 0, none⟩) := hL 2 (by decide +kernel)
      have hl := hC.l11.1
      simp [go_sem, hc, hf, e2, hl]
      exact ⟨Below.refl _ _, rfl⟩
    refine gSt (gStep_run rfl (gRun_move 0 11 (.inl rfl) rfl (by decide +kernel) (fun v w h => h))) ?_
    refine gSt (gStep_run rfl ?_) ?_
    · intro ρ W hC hc hf hL
      have e11 : ρ (.tmp 11) = .int .i64 (place : Nat) := hL 11 (by decide +kernel)
      simp [go_sem, hc, hf, e11, hpl]
      exact ⟨Below.refl _ _, rfl⟩
    refine gSt (gStep_run rfl ?_) ?_
    · intro ρ W hC hc hf hL
      have e10 : ρ (.tmp 10) = .agg #[.int .u64 (dgl (x) 0 : Nat), .int .u64 (dgl (x) 1 : Nat), .int .u64 (dgl (x) 2 : Nat), .int .u64 (dgl (x) 3 : Nat), .int .u64 (dgl (x) 4 : Nat), .int .u64 (dgl (x) 5 : Nat), .int .u64 (dgl (x) 6 : Nat), .int .u64 (dgl (x) 7 : Nat)] := hL 10 (by decide +kernel)
      have e12 : ρ (.tmp 12) = .int .i64 ((place + 124 : Nat) : Int) := hL 12 (by decide +kernel)
      simp [go_sem, hc, hf, e10, e12]
      refine (HSA.out W).mono ?_
      rintro e w' ⟨rfl, hb⟩
      exact ⟨_, rfl, by first | exact hb | (subst hb; exact Below.refl _ _), rfl⟩
    refine gSt (gStep_run rfl ?_) ?_
    · intro ρ W hC hc hf hL
      have e13 : ρ (.tmp 13) = .agg #[.int .u64 (dgl (a) 0 : Nat), .int .u64 (dgl (a) 1 : Nat), .int .u64 (dgl (a) 2 : Nat), .int .u64 (dgl (a) 3 : Nat), .int .u64 (dgl (a) 4 : Nat), .int .u64 (dgl (a) 5 : Nat), .int .u64 (dgl (a) 6 : Nat), .int .u64 (dgl (a) 7 : Nat)] := hL 13 (by decide +kernel)
      simp [go_sem, hc, hf, e13]
      refine (HWH.out W).mono ?_
      rintro e w' ⟨rfl, hb⟩
      exact ⟨_, rfl, by first | exact hb | (subst hb; exact Below.refl _ _), rfl⟩
    refine gSt (gStep_run rfl ?_) ?_
    · intro ρ W hC hc hf hL
      have e9 : ρ (.tmp 9) = .int .i64 i := hL 9 (by decide +kernel)
      have e14 : ρ (.tmp 14) = .int .i64 y := hL 14 (by decide +kernel)
      simp [go_sem, hc, hf, e9, e14]
      refine (HDG.out W hC.g).mono ?_
      rintro e w' ⟨rfl, hb⟩
      exact ⟨_, rfl, by first | exact hb | (subst hb; exact Below.refl _ _), rfl⟩
    refine gSt (gStep_run rfl (gRun_move 15 8 (.inl rfl) rfl (by decide +kernel) (fun v w h => h))) ?_
    refine gSt (gStep_run rfl ?_) ?_
    · intro ρ W hC hc hf hL
      have e8 : ρ (.tmp 8) = .tuple #[.int .i64 k, .bool true] := hL 8 (by decide +kernel)
      simp [go_sem, hc, hf, e8]
      exact ⟨Below.refl _ _, rfl⟩
    refine gSt (gStep_run rfl ?_) ?_
    · intro ρ W hC hc hf hL
      have e8 : ρ (.tmp 8) = .tuple #[.int .i64 k, .bool true] := hL 8 (by decide +kernel)
      simp [go_sem, hc, hf, e8]
      exact ⟨Below.refl _ _, rfl⟩
    refine gSt (gStep_run rfl (gRun_move 16 6 (.inr rfl) rfl (by decide +kernel) (fun v w h => h))) ?_
    refine gSt (gStep_run rfl (gRun_move 17 7 (.inr rfl) rfl (by decide +kernel) (fun v w h => h))) ?_
    exact gSt0
  · intro W hC
    refine gFi 9 rfl ?_
    rintro _ rfl
    refine gFi 10 rfl ?_
    rintro _ rfl
    refine gFi 11 rfl ?_
    rintro _ rfl
    refine gFi 12 rfl ?_
    rintro _ rfl
    refine gFi 13 rfl ?_
    rintro _ rfl
    refine gFi 14 rfl ?_
    rintro _ rfl
    refine gFi 15 rfl ?_
    rintro _ rfl
    refine gFi 8 rfl ?_
    rintro _ rfl
    refine gFi 16 rfl ?_
    rintro _ rfl
    refine gFi 17 rfl ?_
    rintro _ rfl
    refine gFi 6 rfl ?_
    rintro _ rfl
    refine gFi 7 rfl ?_
    rintro _ rfl
    refine gFi0 ?_
    simp only [List.drop_succ_cons, List.drop_zero, Act.put, List.setIfInBounds_toArray, List.set_cons_succ, List.set_cons_zero]
    have HS2 := hide hC
    clear hC HS HSA HWH HDG
    go_upto_region 2 with fail
    refine wp_region_storeK 11 [10] [19, 20, 21, 22, 23, 24, 25, 18, 26, 27] (fun bs => [(19, .val (.agg #[.int .u64 (dgl (x) 0 : Nat), .int .u64 (dgl (x) 1 : Nat), .int .u64 (dgl (x) 2 : Nat), .int .u64 (dgl (x) 3 : Nat), .int .u64 (dgl (x) 4 : Nat), .int .u64 (dgl (x) 5 : Nat), .int .u64 (dgl (x) 6 : Nat), .int .u64 (dgl (x) 7 : Nat)])), (20, .val (.agg #[.int .u64 (dgl (D) 0 : Nat), .int .u64 (dgl (D) 1 : Nat), .int .u64 (dgl (D) 2 : Nat), .int .u64 (dgl (D) 3 : Nat), .int .u64 (dgl (D) 4 : Nat), .int .u64 (dgl (D) 5 : Nat), .int .u64 (dgl (D) 6 : Nat), .int .u64 (dgl (D) 7 : Nat)])), (21, .val (.int .i64 (place : Nat))), (22, .val (.agg #[.int .u64 (dgl (s) 0 : Nat), .int .u64 (dgl (s) 1 : Nat), .int .u64 (dgl (s) 2 : Nat), .int .u64 (dgl (s) 3 : Nat), .int .u64 (dgl (s) 4 : Nat), .int .u64 (dgl (s) 5 : Nat), .int .u64 (dgl (s) 6 : Nat), .int .u64 (dgl (s) 7 : Nat)])), (23, .val (.int .i64 k)), (24, .val (.agg #[.int .u64 (dgl (t) 0 : Nat), .int .u64 (dgl (t) 1 : Nat), .int .u64 (dgl (t) 2 : Nat), .int .u64 (dgl (t) 3 : Nat), .int .u64 (dgl (t) 4 : Nat), .int .u64 (dgl (t) 5 : Nat), .int .u64 (dgl (t) 6 : Nat), .int .u64 (dgl (t) 7 : Nat)])), (25, .val (.tuple #[.agg #[.int .u64 (dgl (r) 0 : Nat), .int .u64 (dgl (r) 1 : Nat), .int .u64 (dgl (r) 2 : Nat), .int .u64 (dgl (r) 3 : Nat), .int .u64 (dgl (r) 4 : Nat), .int .u64 (dgl (r) 5 : Nat), .int .u64 (dgl (r) 6 : Nat), .int .u64 (dgl (r) 7 : Nat)], .bool ov])), (18, .val (.tuple #[.agg #[.int .u64 (dgl (r) 0 : Nat), .int .u64 (dgl (r) 1 : Nat), .int .u64 (dgl (r) 2 : Nat), .int .u64 (dgl (r) 3 : Nat), .int .u64 (dgl (r) 4 : Nat), .int .u64 (dgl (r) 5 : Nat), .int .u64 (dgl (r) 6 : Nat), .int .u64 (dgl (r) 7 : Nat)], .bool ov])), (26, .val (.agg #[.int .u64 (dgl (r) 0 : Nat), .int .u64 (dgl (r) 1 : Nat), .int .u64 (dgl (r) 2 : Nat), .int .u64 (dgl (r) 3 : Nat), .int .u64 (dgl (r) 4 : Nat), .int .u64 (dgl (r) 5 : Nat), .int .u64 (dgl (r) 6 : Nat), .int .u64 (dgl (r) 7 : Nat)])), (27, .val (.bool ov))])
      (fun bs W => ∀ c, bs.headD false = c → StpA i (bif c then r else x) D p9 p11 p5 w W) (fun bs => rfl) mixedOk (by kernel_rfl) (by kernel_rfl) (by kernel_rfl) (fun c hc => by subst hc; exact HS2.out.below (Below.refl _ _).drew) (fun bs W W' h hb c hc => (h c hc).below hb) ?_ ?_
    · refine kSt rfl (fun φ hφ => gStep_run rfl ?_) ?_
      · intro ρ W hC hc hf hL
        have e2 : ρ (.tmp 2) = .pointer (some ⟨p11, 0, none⟩) := hL 2 (by decide +kernel)
        have hφw : φ 10 = false := hφ 10 (by simp) (by kernel_rfl)
        have hl := (hC false (by simp [hφw])).l11.1
        simp [go_sem, hc, hf, e2, hl]
        exact ⟨Below.refl _ _, rfl⟩
      refine kSt rfl (fun φ hφ => gStep_run rfl ?_) ?_
      · intro ρ W hC hc hf hL
        have e3 : ρ (.tmp 3) = .pointer (some ⟨p5, 0, none⟩) := hL 3 (by decide +kernel)
        have hl := (hC _ rfl).l5.1
        simp [go_sem, hc, hf, e3, hl]
        exact ⟨Below.refl _ _, rfl⟩
      refine kSt rfl (fun φ hφ => gStep_run rfl (gRun_move 0 21 (.inl rfl) rfl (by decide +kernel) (fun v w h => h))) ?_
      refine kSt rfl (fun φ hφ => gStep_run rfl ?_) ?_
      · intro ρ W hC hc hf hL
        have e20 : ρ (.tmp 20) = .agg #[.int .u64 (dgl (D) 0 : Nat), .int .u64 (dgl (D) 1 : Nat), .int .u64 (dgl (D) 2 : Nat), .int .u64 (dgl (D) 3 : Nat), .int .u64 (dgl (D) 4 : Nat), .int .u64 (dgl (D) 5 : Nat), .int .u64 (dgl (D) 6 : Nat), .int .u64 (dgl (D) 7 : Nat)] := hL 20 (by decide +kernel)
        have e21 : ρ (.tmp 21) = .int .i64 (place : Nat) := hL 21 (by decide +kernel)
        simp [go_sem, hc, hf, e20, e21]
        refine (HSH.out W).mono ?_
        rintro e w' ⟨rfl, hb⟩
        exact ⟨_, rfl, by first | exact hb | (subst hb; exact Below.refl _ _), rfl⟩
      refine kSt rfl (fun φ hφ => gStep_run rfl (gRun_move 6 23 (.inl rfl) rfl (by decide +kernel) (fun v w h => h))) ?_
      refine kSt rfl (fun φ hφ => gStep_run rfl ?_) ?_
      · intro ρ W hC hc hf hL
        have e22 : ρ (.tmp 22) = .agg #[.int .u64 (dgl (s) 0 : Nat), .int .u64 (dgl (s) 1 : Nat), .int .u64 (dgl (s) 2 : Nat), .int .u64 (dgl (s) 3 : Nat), .int .u64 (dgl (s) 4 : Nat), .int .u64 (dgl (s) 5 : Nat), .int .u64 (dgl (s) 6 : Nat), .int .u64 (dgl (s) 7 : Nat)] := hL 22 (by decide +kernel)
        have e23 : ρ (.tmp 23) = .int .i64 k := hL 23 (by decide +kernel)
        simp [go_sem, hc, hf, e22, e23]
        refine (HTM.out W).mono ?_
        rintro e w' ⟨rfl, hb⟩
        exact ⟨_, rfl, by first | exact hb | (subst hb; exact Below.refl _ _), rfl⟩
      refine kSt rfl (fun φ hφ => gStep_run rfl ?_) ?_
      · intro ρ W hC hc hf hL
        have e19 : ρ (.tmp 19) = .agg #[.int .u64 (dgl (x) 0 : Nat), .int .u64 (dgl (x) 1 : Nat), .int .u64 (dgl (x) 2 : Nat), .int .u64 (dgl (x) 3 : Nat), .int .u64 (dgl (x) 4 : Nat), .int .u64 (dgl (x) 5 : Nat), .int .u64 (dgl (x) 6 : Nat), .int .u64 (dgl (x) 7 : Nat)] := hL 19 (by decide +kernel)
        have e24 : ρ (.tmp 24) = .agg #[.int .u64 (dgl (t) 0 : Nat), .int .u64 (dgl (t) 1 : Nat), .int .u64 (dgl (t) 2 : Nat), .int .u64 (dgl (t) 3 : Nat), .int .u64 (dgl (t) 4 : Nat), .int .u64 (dgl (t) 5 : Nat), .int .u64 (dgl (t) 6 : Nat), .int .u64 (dgl (t) 7 : Nat)] := hL 24 (by decide +kernel)
        simp [go_sem, hc, hf, e19, e24]
        refine (HSB.out W).mono ?_
        rintro e w' ⟨rfl, hb⟩
        exact ⟨_, rfl, by first | exact hb | (subst hb; exact Below.refl _ _), rfl⟩
      refine kSt rfl (fun φ hφ => gStep_run rfl (gRun_move 25 18 (.inl rfl) rfl (by decide +kernel) (fun v w h => h))) ?_
      refine kSt rfl (fun φ hφ => gStep_run rfl ?_) ?_
      · intro ρ W hC hc hf hL
        have e18 : ρ (.tmp 18) = .tuple #[.agg #[.int .u64 (dgl (r) 0 : Nat), .int .u64 (dgl (r) 1 : Nat), .int .u64 (dgl (r) 2 : Nat), .int .u64 (dgl (r) 3 : Nat), .int .u64 (dgl (r) 4 : Nat), .int .u64 (dgl (r) 5 : Nat), .int .u64 (dgl (r) 6 : Nat), .int .u64 (dgl (r) 7 : Nat)], .bool ov] := hL 18 (by decide +kernel)
        simp [go_sem, hc, hf, e18]
        exact ⟨Below.refl _ _, rfl⟩
      refine kSt rfl (fun φ hφ => gStep_run rfl ?_) ?_
      · intro ρ W hC hc hf hL
        have e18 : ρ (.tmp 18) = .tuple #[.agg #[.int .u64 (dgl (r) 0 : Nat), .int .u64 (dgl (r) 1 : Nat), .int .u64 (dgl (r) 2 : Nat), .int .u64 (dgl (r) 3 : Nat), .int .u64 (dgl (r) 4 : Nat), .int .u64 (dgl (r) 5 : Nat), .int .u64 (dgl (r) 6 : Nat), .int .u64 (dgl (r) 7 : Nat)], .bool ov] := hL 18 (by decide +kernel)
        simp [go_sem, hc, hf, e18]
        exact ⟨Below.refl _ _, rfl⟩
      refine kStS rfl ⟨rfl, rfl, ?_⟩ ?_
      · intro φ ρ W hφ hC hc hL
        have e2 : ρ (.tmp 2) = .pointer (some ⟨p11, 0, none⟩) := hL 2 (by decide +kernel)
        have e26 : ρ (.tmp 26) = .agg #[.int .u64 (dgl (r) 0 : Nat), .int .u64 (dgl (r) 1 : Nat), .int .u64 (dgl (r) 2 : Nat), .int .u64 (dgl (r) 3 : Nat), .int .u64 (dgl (r) 4 : Nat), .int .u64 (dgl (r) 5 : Nat), .int .u64 (dgl (r) 6 : Nat), .int .u64 (dgl (r) 7 : Nat)] := hL 26 (by decide +kernel)
        have g : StpA i x D p9 p11 p5 w W := hC false (by simp [hφ])
        have hz := g.l11.1
        have hzl := g.l11.2
        have hzf := g.f11
        have hn1 := HN1.out
        have hn2 := HN2.out
        have hn3 := HN3.out
        refine gUpon_of ((((((((W.setCell ⟨p11, 0, none⟩ (.int .u64 (dgl r 0 : Nat))).setCell ⟨p11, 1, none⟩ (.int .u64 (dgl r 1 : Nat))).setCell ⟨p11, 2, none⟩ (.int .u64 (dgl r 2 : Nat))).setCell ⟨p11, 3, none⟩ (.int .u64 (dgl r 3 : Nat))).setCell ⟨p11, 4, none⟩ (.int .u64 (dgl r 4 : Nat))).setCell ⟨p11, 5, none⟩ (.int .u64 (dgl r 5 : Nat))).setCell ⟨p11, 6, none⟩ (.int .u64 (dgl r 6 : Nat))).setCell ⟨p11, 7, none⟩ (.int .u64 (dgl r 7 : Nat))) ?_ (fun _ => ?_)
        · simp [go_sem, hc, e2, e26, hz, hzl, hzf, gUpon]
        refine ⟨fun c hc => ?_, fun t => ?_⟩
        · have hc1 : c = true := by rw [← hc]; simp
          subst hc1
          exact g.set8 _ hn1 hn2 hn3
        refine (tbl_imp rfl (fun _ => val_imp) (tbl_imp rfl (fun _ => val_imp) (tbl_imp rfl (fun _ => val_imp) (tbl_imp rfl (fun _ => val_imp) (tbl_imp rfl (fun _ => val_imp) (tbl_imp rfl (fun _ => val_imp) (tbl_imp rfl (fun _ => val_imp) (tbl_imp rfl (fun _ => val_imp) (tbl_imp rfl (fun _ => val_imp) (tbl_imp rfl (fun _ => val_imp) tbl_nil_imp))))))))))
      exact kSt0
    · intro W hC
      refine gFi 19 rfl ?_
      rintro _ rfl
      refine gFi 20 rfl ?_
      rintro _ rfl
      refine gFi 21 rfl ?_
      rintro _ rfl
      refine gFi 22 rfl ?_
      rintro _ rfl
      refine gFi 23 rfl ?_
      rintro _ rfl
      refine gFi 24 rfl ?_
      rintro _ rfl
      refine gFi 25 rfl ?_
      rintro _ rfl
      refine gFi 18 rfl ?_
      rintro _ rfl
      refine gFi 26 rfl ?_
      rintro _ rfl
      refine gFi 27 rfl ?_
      rintro _ rfl
      refine gFiN rfl ?_
      refine gFi0 ?_
      simp only [List.drop_succ_cons, List.drop_zero, Act.put, List.setIfInBounds_toArray, List.set_cons_succ, List.set_cons_zero]
      have HS3 := hide (hC true rfl)
      clear hC HS2
      go_wp2
      go_ret
      exact ⟨rfl, HS3.out⟩
      

/-- A step: the digit of what is left, and what is left behind it. -/
theorem stepA_any (place i D p9 p11 p5 : Nat) (z : Int) (hp : place ≤ 300) (h1 : 8 ≤ i) (h2 : i ≤ 15) (hn1 : p9 ≠ p11) (hn2 : p5 ≠ p11) (hn3 : 0 < p11) (hD : D < QQ)
    (hz1 : -((2 ^ 511 : Nat) : Int) ≤ z) (hz2 : z < ((2 ^ 511 : Nat) : Int)) (hy1 : -9223372036854775808 ≤ z / ((2 ^ (place + 124) : Nat) : Int)) (hy2 : z / ((2 ^ (place + 124) : Nat) : Int) < 9223372036854775808)
    (k : Int) (hk : k = chN (tabN (i : Nat)) (z / ((2 ^ (place + 124) : Nat) : Int))) (hk1 : -2 ≤ k) (hk2 : k ≤ 2) (w : World) (hS : StpA (i : Nat) (qz z) D p9 p11 p5 w w) :
    Calls Tryd.prog 59 #[.int .i64 (place : Nat), .pointer (some ⟨p9, 0, none⟩), .pointer (some ⟨p11, 0, none⟩), .pointer (some ⟨p5, 0, none⟩)] w fun e w' => e = .returned (.int .i64 k) ∧ StpA (i : Nat) (qz (z - k * ((D * 2 ^ place : Nat) : Int))) D p9 p11 p5 w w' := by
  have HSB := hide (fun w => wideSub_any (qz z) (qz (k * ((D * 2 ^ place : Nat) : Int))) (qz_lt _) (qz_lt _) w)
  rw [qz_sub] at HSB
  refine stepA_walk place (i : Nat) (z / ((2 ^ (place + 124) : Nat) : Int)) k (qz z) D _ _ _ _ p9 p11 p5 _ hp hn1 hn2 hn3 (hide fun w => ?_) (hide fun w => wholeA_any _ hy1 hy2 w) (hide fun w hg => ?_) (hide fun w => ?_) (hide fun w => timesA_any ((D * 2 ^ place : Nat) : Int) k hk1 hk2 w) HSB w hS
  · have h := wideSar_any (qz z) ((place + 124 : Nat) : Int) (qz_lt z) w
    rwa [wq_sar z (place + 124) (by omega) hz1 hz2] at h
  · rw [hk]
    exact digit_yes _ _ (by omega) (by omega) w hg
  · have h := wideShl_any D (place : Nat) hD w
    rw [show roomI ((place : Nat) : Int) = ((place : Nat) : Int) by unfold roomI; omega, sh_up, wq_nat (D * 2 ^ place)] at h
    exact h
end Go.Proofs.YtbngaajhdaciaaaDoor

/- Contracts: srt.walk, over any function that is told the digits. -/
set_option linter.unusedVariables false
set_option linter.unusedSimpArgs false
set_option maxRecDepth 8000
namespace Go.Proofs.YtbngaajhdaciaaaDoor
open Go.RowKit Plain

/-- What walk goes by: the divisor, its result, the row, what is left. -/
structure WkA (D x p9 : Nat) (i : Int) (w W : World) : Prop where
  l5 : LiesF W (w.heap.size + 1) (dgl D)
  lr : LiesF W (w.heap.size + 2) (fun _ => 0)
  fr : ∀ k, W.frozen? ⟨w.heap.size + 2, k, none⟩ = false
  c9 : W.cell? ⟨p9, 0, none⟩ = some (.int .i64 i)
  l11 : LiesF W (p9 + 1) (dgl x)
  f11 : ∀ k, W.frozen? ⟨p9 + 1, k, none⟩ = false
  o9 : w.heap.size + 3 ≤ p9
section
variable {D x p9 : Nat} {i : Int} {w W W' : World}
theorem WkA.below (h : WkA D x p9 i w W) (hb : Below W.heap.size W W') : WkA D x p9 i w W' :=
  ⟨h.l5.below hb, h.lr.below hb, fun k => (hb.frozen (p := ⟨w.heap.size + 2, k, none⟩) h.lr.2).trans (h.fr k), (hb.cell (p := ⟨p9, 0, none⟩) (show p9 < W.heap.size by have := h.l11.2; omega)).trans h.c9, h.l11.below hb, fun k => (hb.frozen (p := ⟨p9 + 1, k, none⟩) h.l11.2).trans (h.f11 k), h.o9⟩
theorem WkA.kept (h : WkA D x p9 i w W) (hb : KeptC w.heap.size (p9 + 2) W W') : WkA D x p9 i w W' := by
  have ho := h.o9
  exact ⟨hb.lies h.l5 (by omega) (by omega), hb.lies h.lr (by omega) (by omega), fun k => (hb.frozen (by omega) (by omega)).trans (h.fr k), (hb.cell (by omega) (by omega)).trans h.c9, hb.lies h.l11 (by omega) (by omega), fun k => (hb.frozen (by omega) (by omega)).trans (h.f11 k), ho⟩
theorem WkA.stp (h : WkA D x p9 i w W) (hg : TabG W) : StpA i x D p9 (p9 + 1) (w.heap.size + 1) W W :=
  ⟨h.c9, by have := h.l11.2; omega, h.l11, h.f11, h.l5, hg, ⟨rfl, rfl, rfl, Nat.le_refl _, fun k hk _ _ => rfl⟩⟩
theorem WkA.step (h : WkA D x p9 i w W) {y : Nat} (hs : StpA i y D p9 (p9 + 1) (w.heap.size + 1) W W') : WkA D y p9 i w W' := by
  have ho := h.o9
  have hl := h.lr.2
  exact ⟨hs.l5, hs.on.lies h.lr (by omega) (by omega), fun k => (hs.on.frozen hl (by omega) (by omega)).trans (h.fr k), hs.c9, hs.l11, hs.f11, ho⟩
end
theorem w8_dgl {a b : Nat} (h : (#[.int .u64 (dgl (a) 0 : Nat), .int .u64 (dgl (a) 1 : Nat), .int .u64 (dgl (a) 2 : Nat), .int .u64 (dgl (a) 3 : Nat), .int .u64 (dgl (a) 4 : Nat), .int .u64 (dgl (a) 5 : Nat), .int .u64 (dgl (a) 6 : Nat), .int .u64 (dgl (a) 7 : Nat)] : Array Value) = #[.int .u64 (dgl (b) 0 : Nat), .int .u64 (dgl (b) 1 : Nat), .int .u64 (dgl (b) 2 : Nat), .int .u64 (dgl (b) 3 : Nat), .int .u64 (dgl (b) 4 : Nat), .int .u64 (dgl (b) 5 : Nat), .int .u64 (dgl (b) 6 : Nat), .int .u64 (dgl (b) 7 : Nat)]) (t : Nat) (ht : t < 8) : dgl a t = dgl b t := by
  have h2 : ∀ k : Nat, (#[.int .u64 (dgl (a) 0 : Nat), .int .u64 (dgl (a) 1 : Nat), .int .u64 (dgl (a) 2 : Nat), .int .u64 (dgl (a) 3 : Nat), .int .u64 (dgl (a) 4 : Nat), .int .u64 (dgl (a) 5 : Nat), .int .u64 (dgl (a) 6 : Nat), .int .u64 (dgl (a) 7 : Nat)] : Array Value)[k]? = (#[.int .u64 (dgl (b) 0 : Nat), .int .u64 (dgl (b) 1 : Nat), .int .u64 (dgl (b) 2 : Nat), .int .u64 (dgl (b) 3 : Nat), .int .u64 (dgl (b) 4 : Nat), .int .u64 (dgl (b) 5 : Nat), .int .u64 (dgl (b) 6 : Nat), .int .u64 (dgl (b) 7 : Nat)] : Array Value)[k]? := fun k => by rw [h]
  rcases (show t = 0 ∨ t = 1 ∨ t = 2 ∨ t = 3 ∨ t = 4 ∨ t = 5 ∨ t = 6 ∨ t = 7 by omega) with rfl | rfl | rfl | rfl | rfl | rfl | rfl | rfl
  · have := h2 0; simp at this; omega
  · have := h2 1; simp at this; omega
  · have := h2 2; simp at this; omega
  · have := h2 3; simp at this; omega
  · have := h2 4; simp at this; omega
  · have := h2 5; simp at this; omega
  · have := h2 6; simp at this; omega
  · have := h2 7; simp at this; omega
theorem wkA_new (w W : World) (D x p9 : Nat) (i : Int) (e2 : TypeId) (h5 : LiesF W (w.heap.size + 1) (dgl D)) (hr : LiesF W (w.heap.size + 2) (fun _ => 0)) (hf : ∀ k, W.frozen? ⟨w.heap.size + 2, k, none⟩ = false) (h9 : W.cell? ⟨p9, 0, none⟩ = some (.int .i64 i)) (hs : W.heap.size = p9 + 1) (ho : w.heap.size + 3 ≤ p9) : WkA D x p9 i w (W.alloc (.cells #[.int .u64 (dgl (x) 0 : Nat), .int .u64 (dgl (x) 1 : Nat), .int .u64 (dgl (x) 2 : Nat), .int .u64 (dgl (x) 3 : Nat), .int .u64 (dgl (x) 4 : Nat), .int .u64 (dgl (x) 5 : Nat), .int .u64 (dgl (x) 6 : Nat), .int .u64 (dgl (x) 7 : Nat)] e2)) := by
  have h11 := liesF_new W (dgl x) e2
  rw [hs] at h11
  have hb := below_allocs W (.cells #[.int .u64 (dgl (x) 0 : Nat), .int .u64 (dgl (x) 1 : Nat), .int .u64 (dgl (x) 2 : Nat), .int .u64 (dgl (x) 3 : Nat), .int .u64 (dgl (x) 4 : Nat), .int .u64 (dgl (x) 5 : Nat), .int .u64 (dgl (x) 6 : Nat), .int .u64 (dgl (x) 7 : Nat)] e2)
  have hf2 : ∀ k, (W.alloc (.cells #[.int .u64 (dgl (x) 0 : Nat), .int .u64 (dgl (x) 1 : Nat), .int .u64 (dgl (x) 2 : Nat), .int .u64 (dgl (x) 3 : Nat), .int .u64 (dgl (x) 4 : Nat), .int .u64 (dgl (x) 5 : Nat), .int .u64 (dgl (x) 6 : Nat), .int .u64 (dgl (x) 7 : Nat)] e2)).frozen? ⟨W.heap.size, k, none⟩ = false := fun k => by simp [go_sem]
  rw [hs] at hf2
  exact ⟨h5.below hb, hr.below hb, fun k => (hb.frozen (p := ⟨w.heap.size + 2, k, none⟩) hr.2).trans (hf k), (hb.cell (p := ⟨p9, 0, none⟩) (show p9 < W.heap.size by omega)).trans h9, h11, hf2, ho⟩

set_option maxHeartbeats 8000000 in
theorem walkA_walk (fid : Nat) (caps : Array Value) (X D : Nat) (i : Int) (lf dj : Nat → Int) (steps : Nat) (I : Nat → Nat → World → Prop) (w : World) (hst : steps ≤ 65)
    (hX : (#[.int .u64 (dgl (X) 0 : Nat), .int .u64 (dgl (X) 1 : Nat), .int .u64 (dgl (X) 2 : Nat), .int .u64 (dgl (X) 3 : Nat), .int .u64 (dgl (X) 4 : Nat), .int .u64 (dgl (X) 5 : Nat), .int .u64 (dgl (X) 6 : Nat), .int .u64 (dgl (X) 7 : Nat)] : Array Value) = #[.int .u64 (dgl (qz (lf 0)) 0 : Nat), .int .u64 (dgl (qz (lf 0)) 1 : Nat), .int .u64 (dgl (qz (lf 0)) 2 : Nat), .int .u64 (dgl (qz (lf 0)) 3 : Nat), .int .u64 (dgl (qz (lf 0)) 4 : Nat), .int .u64 (dgl (qz (lf 0)) 5 : Nat), .int .u64 (dgl (qz (lf 0)) 6 : Nat), .int .u64 (dgl (qz (lf 0)) 7 : Nat)])
    (HRW : Hid (∀ w, Calls Tryd.prog 58 #[.agg #[.int .u64 (dgl (D) 0 : Nat), .int .u64 (dgl (D) 1 : Nat), .int .u64 (dgl (D) 2 : Nat), .int .u64 (dgl (D) 3 : Nat), .int .u64 (dgl (D) 4 : Nat), .int .u64 (dgl (D) 5 : Nat), .int .u64 (dgl (D) 6 : Nat), .int .u64 (dgl (D) 7 : Nat)]] w fun e w' => e = .returned (.tuple #[.int .i64 i, .bool true]) ∧ Below w.heap.size w w'))
    (HST : Hid (∀ j, j < 65 → ∀ p9 p11 p5 wr, p9 ≠ p11 → p5 ≠ p11 → 0 < p11 → StpA i (qz (lf j)) D p9 p11 p5 wr wr → Calls Tryd.prog 59 #[.int .i64 ((2 * (64 - j) : Nat) : Int), .pointer (some ⟨p9, 0, none⟩), .pointer (some ⟨p11, 0, none⟩), .pointer (some ⟨p5, 0, none⟩)] wr fun e w' => e = .returned (.int .i64 (dj j)) ∧ StpA i (qz (lf (j + 1))) D p9 p11 p5 wr w'))
    (hent : ∀ args w, (callFunc fid args).run Tryd.prog w = .ok (.enter fid args) w)
    (HCA : Hid (∀ C j wr, j < 65 → w.heap.size + 3 ≤ C → C ≤ wr.heap.size → I C j wr → Calls Tryd.prog fid (#[.int .i64 (dj j)] ++ caps) wr fun e w' => e = .returned (.tuple #[]) ∧ I C (j + 1) w' ∧ KeptC w.heap.size C wr w'))
    (HAP : Hid (∀ C j wr wr', I C j wr → ApartC w.heap.size C wr wr' → I C j wr'))
    (HIG : Hid (∀ C j wr, I C j wr → TabG wr)) (HI0 : Hid (∀ C, w.heap.size + 3 ≤ C → I C 0 w)) :
    Calls Tryd.prog 28 #[.agg #[.int .u64 (dgl (X) 0 : Nat), .int .u64 (dgl (X) 1 : Nat), .int .u64 (dgl (X) 2 : Nat), .int .u64 (dgl (X) 3 : Nat), .int .u64 (dgl (X) 4 : Nat), .int .u64 (dgl (X) 5 : Nat), .int .u64 (dgl (X) 6 : Nat), .int .u64 (dgl (X) 7 : Nat)], .agg #[.int .u64 (dgl (D) 0 : Nat), .int .u64 (dgl (D) 1 : Nat), .int .u64 (dgl (D) 2 : Nat), .int .u64 (dgl (D) 3 : Nat), .int .u64 (dgl (D) 4 : Nat), .int .u64 (dgl (D) 5 : Nat), .int .u64 (dgl (D) 6 : Nat), .int .u64 (dgl (D) 7 : Nat)], .int .i64 (steps : Nat), .func (.func fid) #[] caps] w fun e w' => e = .returned (.agg #[.int .u64 (dgl (qz (lf steps)) 0 : Nat), .int .u64 (dgl (qz (lf steps)) 1 : Nat), .int .u64 (dgl (qz (lf steps)) 2 : Nat), .int .u64 (dgl (qz (lf steps)) 3 : Nat), .int .u64 (dgl (qz (lf steps)) 4 : Nat), .int .u64 (dgl (qz (lf steps)) 5 : Nat), .int .u64 (dgl (qz (lf steps)) 6 : Nat), .int .u64 (dgl (qz (lf steps)) 7 : Nat)]) ∧ ∃ C, w.heap.size + 3 ≤ C ∧ I C steps w' := by
  have HG0 : Hid (0 < w.heap.size) := hide (HIG.out _ _ _ (HI0.out _ (Nat.le_refl _))).lt
  have HS0 : Hid (LiesF (((w.alloc (.cells #[.int .u64 (dgl (X) 0 : Nat), .int .u64 (dgl (X) 1 : Nat), .int .u64 (dgl (X) 2 : Nat), .int .u64 (dgl (X) 3 : Nat), .int .u64 (dgl (X) 4 : Nat), .int .u64 (dgl (X) 5 : Nat), .int .u64 (dgl (X) 6 : Nat), .int .u64 (dgl (X) 7 : Nat)] 24)).alloc (.cells #[.int .u64 (dgl (D) 0 : Nat), .int .u64 (dgl (D) 1 : Nat), .int .u64 (dgl (D) 2 : Nat), .int .u64 (dgl (D) 3 : Nat), .int .u64 (dgl (D) 4 : Nat), .int .u64 (dgl (D) 5 : Nat), .int .u64 (dgl (D) 6 : Nat), .int .u64 (dgl (D) 7 : Nat)] 24)).alloc (.cells #[.int .u64 0, .int .u64 0, .int .u64 0, .int .u64 0, .int .u64 0, .int .u64 0, .int .u64 0, .int .u64 0] 24)) w.heap.size (dgl X) ∧ LiesF (((w.alloc (.cells #[.int .u64 (dgl (X) 0 : Nat), .int .u64 (dgl (X) 1 : Nat), .int .u64 (dgl (X) 2 : Nat), .int .u64 (dgl (X) 3 : Nat), .int .u64 (dgl (X) 4 : Nat), .int .u64 (dgl (X) 5 : Nat), .int .u64 (dgl (X) 6 : Nat), .int .u64 (dgl (X) 7 : Nat)] 24)).alloc (.cells #[.int .u64 (dgl (D) 0 : Nat), .int .u64 (dgl (D) 1 : Nat), .int .u64 (dgl (D) 2 : Nat), .int .u64 (dgl (D) 3 : Nat), .int .u64 (dgl (D) 4 : Nat), .int .u64 (dgl (D) 5 : Nat), .int .u64 (dgl (D) 6 : Nat), .int .u64 (dgl (D) 7 : Nat)] 24)).alloc (.cells #[.int .u64 0, .int .u64 0, .int .u64 0, .int .u64 0, .int .u64 0, .int .u64 0, .int .u64 0, .int .u64 0] 24)) (w.heap.size + 1) (dgl D) ∧ LiesF (((w.alloc (.cells #[.int .u64 (dgl (X) 0 : Nat), .int .u64 (dgl (X) 1 : Nat), .int .u64 (dgl (X) 2 : Nat), .int .u64 (dgl (X) 3 : Nat), .int .u64 (dgl (X) 4 : Nat), .int .u64 (dgl (X) 5 : Nat), .int .u64 (dgl (X) 6 : Nat), .int .u64 (dgl (X) 7 : Nat)] 24)).alloc (.cells #[.int .u64 (dgl (D) 0 : Nat), .int .u64 (dgl (D) 1 : Nat), .int .u64 (dgl (D) 2 : Nat), .int .u64 (dgl (D) 3 : Nat), .int .u64 (dgl (D) 4 : Nat), .int .u64 (dgl (D) 5 : Nat), .int .u64 (dgl (D) 6 : Nat), .int .u64 (dgl (D) 7 : Nat)] 24)).alloc (.cells #[.int .u64 0, .int .u64 0, .int .u64 0, .int .u64 0, .int .u64 0, .int .u64 0, .int .u64 0, .int .u64 0] 24)) (w.heap.size + 2) (fun _ => 0) ∧ (∀ k, (((w.alloc (.cells #[.int .u64 (dgl (X) 0 : Nat), .int .u64 (dgl (X) 1 : Nat), .int .u64 (dgl (X) 2 : Nat), .int .u64 (dgl (X) 3 : Nat), .int .u64 (dgl (X) 4 : Nat), .int .u64 (dgl (X) 5 : Nat), .int .u64 (dgl (X) 6 : Nat), .int .u64 (dgl (X) 7 : Nat)] 24)).alloc (.cells #[.int .u64 (dgl (D) 0 : Nat), .int .u64 (dgl (D) 1 : Nat), .int .u64 (dgl (D) 2 : Nat), .int .u64 (dgl (D) 3 : Nat), .int .u64 (dgl (D) 4 : Nat), .int .u64 (dgl (D) 5 : Nat), .int .u64 (dgl (D) 6 : Nat), .int .u64 (dgl (D) 7 : Nat)] 24)).alloc (.cells #[.int .u64 0, .int .u64 0, .int .u64 0, .int .u64 0, .int .u64 0, .int .u64 0, .int .u64 0, .int .u64 0] 24)).frozen? ⟨w.heap.size + 2, k, none⟩ = false) ∧ Below w.heap.size w (((w.alloc (.cells #[.int .u64 (dgl (X) 0 : Nat), .int .u64 (dgl (X) 1 : Nat), .int .u64 (dgl (X) 2 : Nat), .int .u64 (dgl (X) 3 : Nat), .int .u64 (dgl (X) 4 : Nat), .int .u64 (dgl (X) 5 : Nat), .int .u64 (dgl (X) 6 : Nat), .int .u64 (dgl (X) 7 : Nat)] 24)).alloc (.cells #[.int .u64 (dgl (D) 0 : Nat), .int .u64 (dgl (D) 1 : Nat), .int .u64 (dgl (D) 2 : Nat), .int .u64 (dgl (D) 3 : Nat), .int .u64 (dgl (D) 4 : Nat), .int .u64 (dgl (D) 5 : Nat), .int .u64 (dgl (D) 6 : Nat), .int .u64 (dgl (D) 7 : Nat)] 24)).alloc (.cells #[.int .u64 0, .int .u64 0, .int .u64 0, .int .u64 0, .int .u64 0, .int .u64 0, .int .u64 0, .int .u64 0] 24))) := by
    have h2 := liesF_new (w.alloc (.cells #[.int .u64 (dgl (X) 0 : Nat), .int .u64 (dgl (X) 1 : Nat), .int .u64 (dgl (X) 2 : Nat), .int .u64 (dgl (X) 3 : Nat), .int .u64 (dgl (X) 4 : Nat), .int .u64 (dgl (X) 5 : Nat), .int .u64 (dgl (X) 6 : Nat), .int .u64 (dgl (X) 7 : Nat)] 24)) (dgl D) 24
    have h3 := liesF_new ((w.alloc (.cells #[.int .u64 (dgl (X) 0 : Nat), .int .u64 (dgl (X) 1 : Nat), .int .u64 (dgl (X) 2 : Nat), .int .u64 (dgl (X) 3 : Nat), .int .u64 (dgl (X) 4 : Nat), .int .u64 (dgl (X) 5 : Nat), .int .u64 (dgl (X) 6 : Nat), .int .u64 (dgl (X) 7 : Nat)] 24)).alloc (.cells #[.int .u64 (dgl (D) 0 : Nat), .int .u64 (dgl (D) 1 : Nat), .int .u64 (dgl (D) 2 : Nat), .int .u64 (dgl (D) 3 : Nat), .int .u64 (dgl (D) 4 : Nat), .int .u64 (dgl (D) 5 : Nat), .int .u64 (dgl (D) 6 : Nat), .int .u64 (dgl (D) 7 : Nat)] 24)) (fun _ => 0) 24
    rw [World.size_alloc] at h2
    rw [World.size_alloc, World.size_alloc] at h3
    exact ⟨((liesF_new w (dgl X) _).alloc _).alloc _, h2.alloc _, h3, fun k => by simp [go_sem], below_trans (below_trans (below_allocs _ _) (below_allocs _ _)) (below_allocs _ _)⟩
  have HX := hide hX
  clear hX
  go_enter Tryd.func28, Tryd.ntmps28
  go_upto_region 1 with fail
  refine wp_gen (fun W => LiesF W w.heap.size (dgl X) ∧ LiesF W (w.heap.size + 1) (dgl D) ∧ LiesF W (w.heap.size + 2) (fun _ => 0) ∧ (∀ k, W.frozen? ⟨w.heap.size + 2, k, none⟩ = false) ∧ Below w.heap.size w W) ?_ ?_
  · exact HS0.out
  clear HS0
  rintro W1 h1
  have HS := hide h1
  have hl := h1.2.1.1
  clear h1
  go_step3
  go_wp2_with fail
  refine (HRW.out _).mono ?_
  rintro e w2 ⟨rfl, hb2⟩
  replace HS := hide (show LiesF w2 w.heap.size (dgl X) ∧ LiesF w2 (w.heap.size + 1) (dgl D) ∧ LiesF w2 (w.heap.size + 2) (fun _ => 0) ∧ (∀ k, w2.frozen? ⟨w.heap.size + 2, k, none⟩ = false) ∧ Below w.heap.size w w2 from ⟨HS.out.1.below hb2, HS.out.2.1.below hb2, HS.out.2.2.1.below hb2, fun k => (hb2.frozen (p := ⟨w.heap.size + 2, k, none⟩) HS.out.2.2.1.2).trans (HS.out.2.2.2.1 k), below_trans HS.out.2.2.2.2 hb2⟩)
  clear hb2 hl HRW
  go_upto_region 2 with fail
  refine wp_gen (fun W => (LiesF W w.heap.size (dgl X) ∧ LiesF W (w.heap.size + 1) (dgl D) ∧ LiesF W (w.heap.size + 2) (fun _ => 0) ∧ (∀ k, W.frozen? ⟨w.heap.size + 2, k, none⟩ = false) ∧ Below w.heap.size w W) ∧ W.cell? ⟨w2.heap.size, 0, none⟩ = some (.int .i64 i) ∧ W.heap.size = w2.heap.size + 1) ?_ ?_
  · have hb := below_allocs w2 (.cells #[.int .i64 i] 3)
    exact ⟨⟨HS.out.1.below hb, HS.out.2.1.below hb, HS.out.2.2.1.below hb, fun k => (hb.frozen (p := ⟨w.heap.size + 2, k, none⟩) HS.out.2.2.1.2).trans (HS.out.2.2.2.1 k), below_trans HS.out.2.2.2.2 hb⟩, by simp [go_sem], by simp⟩
  have HO9 : Hid (w.heap.size + 3 ≤ w2.heap.size) := by have := HS.out.2.2.1.2; apply hide; omega
  clear HS
  generalize w2.heap.size = p9 at *
  rintro W4 h4
  have HS := hide h4
  have hl := h4.1.1.1
  have hsz : W4.heap.size = p9 + 1 := h4.2.2
  clear h4
  go_upto_region 3 with fail
  skip
  refine wp_gen (fun W => WkA D (qz (lf 0)) p9 i w W ∧ I (p9 + 2) 0 W) ?_ ?_
  · have hk := wkA_new w W4 D X p9 i 24 HS.out.1.2.1 HS.out.1.2.2.1 HS.out.1.2.2.2.1 HS.out.2.1 HS.out.2.2 HO9.out
    have hap : ApartC w.heap.size (p9 + 2) w (W4.alloc (.cells #[.int .u64 (dgl (X) 0 : Nat), .int .u64 (dgl (X) 1 : Nat), .int .u64 (dgl (X) 2 : Nat), .int .u64 (dgl (X) 3 : Nat), .int .u64 (dgl (X) 4 : Nat), .int .u64 (dgl (X) 5 : Nat), .int .u64 (dgl (X) 6 : Nat), .int .u64 (dgl (X) 7 : Nat)] 24)) := apartC_of (below_trans HS.out.1.2.2.2.2 (below_allocs _ _))
    have hi := HAP.out _ _ _ _ (HI0.out (p9 + 2) (by have := HO9.out; omega)) hap
    have hw : WkA D (qz (lf 0)) p9 i w (W4.alloc (.cells #[.int .u64 (dgl (X) 0 : Nat), .int .u64 (dgl (X) 1 : Nat), .int .u64 (dgl (X) 2 : Nat), .int .u64 (dgl (X) 3 : Nat), .int .u64 (dgl (X) 4 : Nat), .int .u64 (dgl (X) 5 : Nat), .int .u64 (dgl (X) 6 : Nat), .int .u64 (dgl (X) 7 : Nat)] 24)) := ⟨hk.l5, hk.lr, hk.fr, hk.c9, by
      have h := hk.l11
      refine ⟨fun t ht => ?_, h.2⟩
      rw [h.1 t ht, w8_dgl HX.out t ht], hk.f11, hk.o9⟩
    exact ⟨hw, hi⟩
  clear HS HI0 hl HX hsz
  rintro W3 h3
  have HS := hide h3
  clear h3
  go_wp2
  go_step3
  go_wp2
  go_loopw [21] (fun t wr => ∃ j : Nat, j ≤ 65 ∧ j ≤ steps ∧ t = .int .i64 j ∧ Hid (WkA D (qz (lf j)) p9 i w wr ∧ I (p9 + 2) j wr))
    (fun t _ => 65 - (intOf t).toNat)
  case atStart => exact ⟨0, by omega, by omega, rfl, HS⟩
  case round =>
    clear HS
    obtain ⟨j, hj, hjs, rfl, HS⟩ := hrel
    have ho9 := HS.out.1.o9
    have hl11 := HS.out.1.l11.2
    by_cases hes : j = steps
    · subst hes
      rcases Nat.lt_or_ge j 65 with hlt | hge
      · have hlt2 : (j : Int) < 65 := by omega
        have hl := HS.out.1.l11.1
        have hr := HS.out.1.lr.1
        have hrl := HS.out.1.lr.2
        have hrf := HS.out.1.fr
        clear HST HCA HIG
        go_wp2
        try rw [Exit.noGoto_ret]
        exact bodyPost_ret (v := .agg #[.int .u64 (dgl (qz (lf j)) 0 : Nat), .int .u64 (dgl (qz (lf j)) 1 : Nat), .int .u64 (dgl (qz (lf j)) 2 : Nat), .int .u64 (dgl (qz (lf j)) 3 : Nat), .int .u64 (dgl (qz (lf j)) 4 : Nat), .int .u64 (dgl (qz (lf j)) 5 : Nat), .int .u64 (dgl (qz (lf j)) 6 : Nat), .int .u64 (dgl (qz (lf j)) 7 : Nat)]) (by simp [results, Tryd.results28, go_sem, hr, hrl]) rfl ⟨rfl, p9 + 2, by omega, HAP.out _ _ _ _ HS.out.2 (apartC_set8 wr (w.heap.size + 2) (by omega) (by omega) (dgl (qz (lf j))))⟩
      · have hlt2 : ¬ (j : Int) < 65 := by omega
        have hl := HS.out.1.l11.1
        have hr := HS.out.1.lr.1
        have hrl := HS.out.1.lr.2
        have hrf := HS.out.1.fr
        clear HST HCA HIG
        go_wp2
        try rw [Exit.noGoto_ret]
        exact bodyPost_ret (v := .agg #[.int .u64 (dgl (qz (lf j)) 0 : Nat), .int .u64 (dgl (qz (lf j)) 1 : Nat), .int .u64 (dgl (qz (lf j)) 2 : Nat), .int .u64 (dgl (qz (lf j)) 3 : Nat), .int .u64 (dgl (qz (lf j)) 4 : Nat), .int .u64 (dgl (qz (lf j)) 5 : Nat), .int .u64 (dgl (qz (lf j)) 6 : Nat), .int .u64 (dgl (qz (lf j)) 7 : Nat)]) (by simp [results, Tryd.results28, go_sem, hr, hrl]) rfl ⟨rfl, p9 + 2, by omega, HAP.out _ _ _ _ HS.out.2 (apartC_set8 wr (w.heap.size + 2) (by omega) (by omega) (dgl (qz (lf j))))⟩
    · have hlt : j < 65 := by omega
      have hlt2 : (j : Int) < 65 := by omega
      have he : ((j : Int) == (steps : Int)) = false := by rw [beq_eq_false_iff_ne]; omega
      have he2 : ¬ (j : Int) = (steps : Int) := by omega
      have hw1 : IntKind.i64.wrap (64 - (j : Int)) = ((64 - j : Nat) : Int) := by rw [IntKind.wrap_i64]; omega
      have hw2 : IntKind.i64.wrap (2 * ((64 - j : Nat) : Int)) = ((2 * (64 - j) : Nat) : Int) := by rw [IntKind.wrap_i64]; omega
      have hgt : 0 < p9 + 1 := by have := HG0.out; omega
      have HSTJ := hide (HST.out j hlt p9 (p9 + 1) (w.heap.size + 1) wr (by omega) (by omega) hgt (HS.out.1.stp (HIG.out _ _ _ HS.out.2)))
      go_wp2_with fail
      refine HSTJ.out.mono ?_
      rintro e w5 ⟨rfl, hs5⟩
      have HS5 := hide (show WkA D (qz (lf (j + 1))) p9 i w w5 ∧ I (p9 + 2) j w5 from ⟨HS.out.1.step hs5, HAP.out _ _ _ _ HS.out.2 (apartC_only hs5.on (by omega) (by omega))⟩)
      clear HS HSTJ hs5 hw1 hw2
      have hsz5 := HS5.out.1.l11.2
      have HCL := hide (HCA.out (p9 + 2) j w5 hlt (by omega) (by omega) HS5.out.2)
      go_wp2_with fail
      refine HCL.out.mono ?_
      rintro e w6 ⟨rfl, hI6, hk6⟩
      have HS6 := hide (show WkA D (qz (lf (j + 1))) p9 i w w6 ∧ I (p9 + 2) (j + 1) w6 from ⟨HS5.out.1.kept hk6, hI6⟩)
      clear HS5 HCL hI6 hk6 hsz5
      have hw3 : IntKind.i64.wrap ((j : Int) + 1) = ((j + 1 : Nat) : Int) := by rw [IntKind.wrap_i64]; omega
      go_wp2
      go_roundw
      case rel => exact ⟨j + 1, by omega, by omega, by first | rfl | go_num, HS6⟩
      case measure => simp [intOf]; omega
end Go.Proofs.YtbngaajhdaciaaaDoor

/- Contracts: srt.walk in numbers; the closures that are told the digits; srt.Norm. -/
set_option linter.unusedVariables false
set_option linter.unusedSimpArgs false
set_option maxRecDepth 8000
namespace Go.Proofs.YtbngaajhdaciaaaDoor
open Go.RowKit Plain

theorem up15_len (d : Nat) (h0 : d ≠ 0) (hL : Go.bitLen d ≤ 128) : Go.bitLen (up15 d) = 128 := by
  have h := bitLen_up d (128 - Go.bitLen d) h0
  unfold up15
  omega
theorem row_gen (u a b c : Nat) (h : c = a + b) : u * 2 ^ a / 2 ^ c = u / 2 ^ b := by
  rw [h, Nat.pow_add, ← Nat.div_div_eq_div_mul, Nat.mul_div_cancel _ (Nat.two_pow_pos a)]
theorem rwN_gen (d L : Nat) (h : Go.bitLen d = L) (ha : 508 = 512 - L + 124) : rwN d = d / 2 ^ 124 := by
  unfold rwN
  rw [h]
  exact row_gen d (512 - L) 124 508 ha
theorem up15_rwN (d : Nat) (h0 : d ≠ 0) (hL : Go.bitLen d ≤ 128) : rwN (up15 d) = up15 d / 2 ^ 124 := rwN_gen _ 128 (up15_len d h0 hL) rfl
theorem up15_lt (d : Nat) (h0 : d ≠ 0) (hL : Go.bitLen d ≤ 128) : up15 d < QQ :=
  Nat.lt_trans (up15_bd d h0 hL).2 (by decide +kernel)
theorem Ok15.wide {n d : Nat} (h : Ok15 n d) (j : Nat) (hj : j ≤ 65) : -((2 ^ 511 : Nat) : Int) ≤ lf15 n d j ∧ lf15 n d j < ((2 ^ 511 : Nat) : Int) := by
  have hk := h.keeps j hj
  have hU := h.hU
  have hW : (4 : Int) ^ (65 - j) ≤ 4 ^ 65 := by
    rw [pow4_two, pow4_two]
    exact_mod_cast Nat.pow_le_pow_right (by decide) (show 2 * (65 - j) ≤ 2 * 65 by omega)
  have hp := pow4_pos (65 - j)
  have e1 : ((up15 d : Nat) : Int) * 4 ^ (65 - j) ≤ ((2 ^ 128 : Nat) : Int) * 4 ^ 65 := Int.mul_le_mul (by exact_mod_cast Nat.le_of_lt hU) hW (by omega) (by omega)
  have e2 : 2 * (((2 ^ 128 : Nat) : Int) * 4 ^ 65) < ((2 ^ 511 : Nat) : Int) := by decide +kernel
  generalize ((up15 d : Nat) : Int) * 4 ^ (65 - j) = M at *
  generalize ((2 ^ 128 : Nat) : Int) * 4 ^ 65 = K at *
  generalize ((2 ^ 511 : Nat) : Int) = H at *
  constructor <;> omega
theorem div_bd (z : Int) (E B : Nat) (hE : 0 < E) (h : z.natAbs / E < B) : -(B : Int) ≤ z / (E : Int) ∧ z / (E : Int) < (B : Int) := by
  have h1 := Nat.lt_mul_of_div_lt h hE
  have e : (z.natAbs : Int) < (B : Int) * (E : Int) := by exact_mod_cast h1
  have hE2 : (0 : Int) < (E : Int) := by omega
  constructor
  · refine (Int.le_ediv_iff_mul_le hE2).2 ?_
    rw [Int.neg_mul]
    omega
  · refine (Int.ediv_lt_iff_lt_mul hE2).2 ?_
    omega
/-- walk: the digits of a quotient, told to a function; what is left. -/
theorem walkA_any (fid : Nat) (caps : Array Value) (n d : Nat) (h0 : d ≠ 0) (hL : Go.bitLen d ≤ 128) (ok : Ok15 n d) (steps : Nat) (I : Nat → Nat → World → Prop) (w : World) (hst : steps ≤ 65)
    (hent : ∀ args w, (callFunc fid args).run Tryd.prog w = .ok (.enter fid args) w)
    (HCA : Hid (∀ C j wr, j < 65 → w.heap.size + 3 ≤ C → C ≤ wr.heap.size → I C j wr → Calls Tryd.prog fid (#[.int .i64 (dg15 n d j)] ++ caps) wr fun e w' => e = .returned (.tuple #[]) ∧ I C (j + 1) w' ∧ KeptC w.heap.size C wr w'))
    (HAP : Hid (∀ C j wr wr', I C j wr → ApartC w.heap.size C wr wr' → I C j wr'))
    (HIG : Hid (∀ C j wr, I C j wr → TabG wr)) (HI0 : Hid (∀ C, w.heap.size + 3 ≤ C → I C 0 w)) :
    Calls Tryd.prog 28 #[.agg #[.int .u64 (dgl (nu15 n d) 0 : Nat), .int .u64 (dgl (nu15 n d) 1 : Nat), .int .u64 (dgl (nu15 n d) 2 : Nat), .int .u64 (dgl (nu15 n d) 3 : Nat), .int .u64 (dgl (nu15 n d) 4 : Nat), .int .u64 (dgl (nu15 n d) 5 : Nat), .int .u64 (dgl (nu15 n d) 6 : Nat), .int .u64 (dgl (nu15 n d) 7 : Nat)], .agg #[.int .u64 (dgl (up15 d) 0 : Nat), .int .u64 (dgl (up15 d) 1 : Nat), .int .u64 (dgl (up15 d) 2 : Nat), .int .u64 (dgl (up15 d) 3 : Nat), .int .u64 (dgl (up15 d) 4 : Nat), .int .u64 (dgl (up15 d) 5 : Nat), .int .u64 (dgl (up15 d) 6 : Nat), .int .u64 (dgl (up15 d) 7 : Nat)], .int .i64 (steps : Nat), .func (.func fid) #[] caps] w fun e w' => e = .returned (.agg #[.int .u64 (dgl (qz (lf15 n d steps)) 0 : Nat), .int .u64 (dgl (qz (lf15 n d steps)) 1 : Nat), .int .u64 (dgl (qz (lf15 n d steps)) 2 : Nat), .int .u64 (dgl (qz (lf15 n d steps)) 3 : Nat), .int .u64 (dgl (qz (lf15 n d steps)) 4 : Nat), .int .u64 (dgl (qz (lf15 n d steps)) 5 : Nat), .int .u64 (dgl (qz (lf15 n d steps)) 6 : Nat), .int .u64 (dgl (qz (lf15 n d steps)) 7 : Nat)]) ∧ ∃ C, w.heap.size + 3 ≤ C ∧ I C steps w' := by
  have h1 : 8 ≤ up15 d / 2 ^ 124 := by have := ok.h1; omega
  have h2 : up15 d / 2 ^ 124 ≤ 15 := by have := ok.h2; omega
  refine walkA_walk fid caps (nu15 n d) (up15 d) ((up15 d / 2 ^ 124 : Nat) : Int) (lf15 n d) (dg15 n d) steps I w hst (wq_nat (nu15 n d)) (hide fun w => ?_) (hide fun j hj p9 p11 p5 wr a1 a2 a3 hS => ?_) hent HCA HAP HIG HI0
  · have h := rowC_yes (up15 d) (up15_lt d h0 hL) (by have := (up15_bd d h0 hL).1; have := Nat.two_pow_pos 127; omega) w
    rwa [up15_rwN d h0 hL] at h
  · have hw := ok.wide j (by omega)
    have hb := ok.bd j hj
    have hs := div_bd (lf15 n d j) (2 ^ (124 + 2 * (64 - j))) 4294967295 (Nat.two_pow_pos _) (ok.small j hj)
    rw [Nat.add_comm 124] at hs
    have h := stepA_any (2 * (64 - j)) (up15 d / 2 ^ 124) (up15 d) p9 p11 p5 (lf15 n d j) (by omega) h1 h2 a1 a2 a3 (up15_lt d h0 hL) hw.1 hw.2 (by omega) (by omega) (dg15 n d j) (by rw [dg15_is, Nat.add_comm 124]; simp) hb.1 hb.2 wr hS
    rwa [← lf15_step] at h
theorem TabG.apart {B C : Nat} {w w' : World} (hg : TabG w) (h : ApartC B C w w') (hp : 0 < B) : TabG w' :=
  ⟨fun i hi => (h.cell hg.lt (.inl hp)).trans (hg.c i hi), Nat.lt_of_lt_of_le hg.lt h.size⟩

/-- A function that is told the digits and does nothing. -/
theorem idle_any (k : Int) (w : World) : Calls Tryd.prog 42 #[.int .i64 k] w fun e w' => e = .returned (.tuple #[]) ∧ w' = w := by
  go_enter Tryd.func42, Tryd.ntmps42
  go_wp2
  exact bodyPost_end (v := .tuple #[]) (by simp [results, Tryd.results42, go_sem]) rfl ⟨rfl, rfl⟩
theorem walkA_idle (n d : Nat) (h0 : d ≠ 0) (hL : Go.bitLen d ≤ 128) (ok : Ok15 n d) (steps : Nat) (w : World) (hst : steps ≤ 65) (hg : TabG w) :
    Calls Tryd.prog 28 #[.agg #[.int .u64 (dgl (nu15 n d) 0 : Nat), .int .u64 (dgl (nu15 n d) 1 : Nat), .int .u64 (dgl (nu15 n d) 2 : Nat), .int .u64 (dgl (nu15 n d) 3 : Nat), .int .u64 (dgl (nu15 n d) 4 : Nat), .int .u64 (dgl (nu15 n d) 5 : Nat), .int .u64 (dgl (nu15 n d) 6 : Nat), .int .u64 (dgl (nu15 n d) 7 : Nat)], .agg #[.int .u64 (dgl (up15 d) 0 : Nat), .int .u64 (dgl (up15 d) 1 : Nat), .int .u64 (dgl (up15 d) 2 : Nat), .int .u64 (dgl (up15 d) 3 : Nat), .int .u64 (dgl (up15 d) 4 : Nat), .int .u64 (dgl (up15 d) 5 : Nat), .int .u64 (dgl (up15 d) 6 : Nat), .int .u64 (dgl (up15 d) 7 : Nat)], .int .i64 (steps : Nat), .func (.func 42) #[] #[]] w fun e w' => e = .returned (.agg #[.int .u64 (dgl (qz (lf15 n d steps)) 0 : Nat), .int .u64 (dgl (qz (lf15 n d steps)) 1 : Nat), .int .u64 (dgl (qz (lf15 n d steps)) 2 : Nat), .int .u64 (dgl (qz (lf15 n d steps)) 3 : Nat), .int .u64 (dgl (qz (lf15 n d steps)) 4 : Nat), .int .u64 (dgl (qz (lf15 n d steps)) 5 : Nat), .int .u64 (dgl (qz (lf15 n d steps)) 6 : Nat), .int .u64 (dgl (qz (lf15 n d steps)) 7 : Nat)]) ∧ Below w.heap.size w w' := by
  refine (walkA_any 42 #[] n d h0 hL ok steps (fun C j W => TabG W ∧ Below w.heap.size w W) w hst (enters_of Tryd.func42 (by kernel_rfl) rfl) (hide fun C j wr hj hC hs hI => ?_) (hide fun C j wr wr' hI hb => ⟨hI.1.apart hb hg.lt, hb.under hI.2 (Nat.le_refl _) (Nat.le_refl _)⟩) (hide fun C j wr hI => hI.1) (hide fun C hC => ⟨hg, Below.refl _ _⟩)).mono ?_
  · refine (idle_any (dg15 n d j) wr).mono ?_
    rintro e w' ⟨rfl, rfl⟩
    exact ⟨rfl, hI, ⟨Nat.le_refl _, fun k _ _ => rfl⟩⟩
  · rintro e w' ⟨rfl, C, hC, hI⟩
    exact ⟨rfl, hI.2⟩

theorem int_infoA : (Tryd.prog.info? 3).map (fun i => (i.zero, i.size, i.bytes)) = some (some (.int .i64 0), 1, 8) := by kernel_rfl
set_option maxHeartbeats 2000000 in
theorem dgA_any (b p7 base n : Nat) (xs : List Nat) (v : Value) (w : World) (hc : w.cell? ⟨p7, 0, none⟩ = some v) (hf : w.frozen? ⟨p7, 0, none⟩ = false) (hown : w.ownsRow base 3 1 v n (xs.map mkZ)) (hp : p7 < base) (hbase : base ≤ w.heap.size) (hn : n ≤ 1000) :
    Calls Tryd.prog 36 #[.int .i64 (zof b), .pointer (some ⟨p7, 0, none⟩)] w fun e w' => e = .returned (.tuple #[]) ∧ ∃ v', w'.cell? ⟨p7, 0, none⟩ = some v' ∧ w'.frozen? ⟨p7, 0, none⟩ = false ∧ w'.ownsRow base 3 1 v' (n + 1) ((xs ++ [b]).map mkZ) ∧ But p7 base w w' := by
  obtain ⟨i0, hi, hz0, hz1, hz2⟩ := info_parts int_infoA
  have HS : Hid (w.cell? ⟨p7, 0, none⟩ = some v ∧ w.frozen? ⟨p7, 0, none⟩ = false ∧ w.ownsRow base 3 1 v n (xs.map mkZ) ∧ Below base w w ∧ base ≤ w.heap.size) := ⟨hc, hf, hown, Below.refl _ _, hbase⟩
  clear hc hf hown hbase
  go_enter Tryd.func36, Tryd.ntmps36
  refine wp_gen (fun W => W.cell? ⟨p7, 0, none⟩ = some v ∧ W.frozen? ⟨p7, 0, none⟩ = false ∧ W.ownsRow base 3 1 v n (xs.map mkZ) ∧ Below base w W ∧ base ≤ W.heap.size) HS.out ?_
  clear HS
  rintro wr ⟨hc, hf, hown, hbel, hbase⟩
  go_wp2_with (at_builtin; (refine wpList_app1 w wr rfl _ _ 31 rfl base 3 i0 (.int .i64 0) 8 Tryd.underlying31 hi hz0 hz1 hz2 rfl mkZ _ _ _ (by rfl) hown hbel _ b rfl rfl (by rfl) (by omega) (by omega) (by omega) ?_); intro v' w1 hown1 hbel1; go_must (obtain ⟨g, cp, rfl, hg1, hg2, hg3⟩ := owns_form hown1 (by omega); have hc1 : w1.cell? ⟨p7, 0, none⟩ = some v := ((hbel1.cell (p := ⟨p7, 0, none⟩) hp).trans (hbel.cell (p := ⟨p7, 0, none⟩) hp).symm).trans hc; have hf1 : w1.frozen? ⟨p7, 0, none⟩ = false := ((hbel1.frozen (p := ⟨p7, 0, none⟩) hp).trans (hbel.frozen (p := ⟨p7, 0, none⟩) hp).symm).trans hf; clear hown hbel hc hf hbase))
  go_wp2
  refine bodyPost_end (v := .tuple #[]) (by simp [results, Tryd.results36, go_sem]) rfl ?_
  refine ⟨rfl, _, by simp [go_sem, hc1], by simpa [go_sem] using hf1, ownsRow_setCell_below hown1 hp _, ⟨hbel1.os, hbel1.tape, hbel1.output, by simpa [go_sem] using hbel1.size, fun k hk hne => (Below.heap_setCell _ _ _ _ hne).trans (hbel1.block k hk)⟩⟩
/-- What Digits goes by: the digits so far. -/
structure DgA (f : Nat → Int) (B C p7 j : Nat) (w W : World) : Prop where
  v : ∃ v, W.cell? ⟨p7, 0, none⟩ = some v ∧ W.frozen? ⟨p7, 0, none⟩ = false ∧ W.ownsRow C 3 1 v j ((seqL f j).map mkZ)
  lt : p7 < W.heap.size
  bel : Below w.heap.size w W
  o : w.heap.size ≤ p7
  ob : p7 < B
  oc : B ≤ C
theorem DgA.apart {f : Nat → Int} {B C p7 j : Nat} {w W W' : World} (h : DgA f B C p7 j w W) (hb : ApartC B C W W') (hB : w.heap.size ≤ B) : DgA f B C p7 j w W' := by
  obtain ⟨v, h1, h2, h3⟩ := h.v
  have hob := h.ob
  refine ⟨⟨v, (hb.cell h.lt (.inl h.ob)).trans h1, (hb.frozen h.lt (.inl h.ob)).trans h2, owns_of_block h3 fun g hg => ?_⟩, Nat.lt_of_lt_of_le h.lt hb.size, hb.under h.bel hB (Nat.le_refl _), h.o, h.ob, h.oc⟩
  have hl := h3.lt g hg
  exact hb.block g hl.2 (.inr hl.1)
theorem DgA.but {f : Nat → Int} {B C p7 j : Nat} {w W W' : World} (h : DgA f B C p7 j w W) (hb : But p7 C W W') (v : Value) (h1 : W'.cell? ⟨p7, 0, none⟩ = some v) (h2 : W'.frozen? ⟨p7, 0, none⟩ = false) (h3 : W'.ownsRow C 3 1 v (j + 1) ((seqL f (j + 1)).map mkZ)) : DgA f B C p7 (j + 1) w W' :=
  ⟨⟨v, h1, h2, h3⟩, Nat.lt_of_lt_of_le h.lt hb.size, ⟨hb.os.trans h.bel.os, hb.tape.trans h.bel.tape, hb.output.trans h.bel.output, Nat.le_trans h.bel.size hb.size, fun k hk => (hb.block k (by have := h.o; have := h.ob; have := h.oc; omega) (by have := h.o; omega)).trans (h.bel.block k hk)⟩, h.o, h.ob, h.oc⟩
theorem TabG.but {p base : Nat} {w w' : World} (hg : TabG w) (h : But p base w w') (hp : 0 < p) (hb : p < base) : TabG w' :=
  ⟨fun i hi => (World.cell?_of_block (w := w) (h.block 0 (show 0 < base by omega) (show 0 ≠ p by omega))).trans (hg.c i hi), Nat.lt_of_lt_of_le hg.lt h.size⟩
theorem walkA_digits (n d : Nat) (h0 : d ≠ 0) (hL : Go.bitLen d ≤ 128) (ok : Ok15 n d) (w W : World) (hg : TabG w) (p7 : Nat) (h1 : W.cell? ⟨p7, 0, none⟩ = some (.slice none 0 0)) (h2 : W.frozen? ⟨p7, 0, none⟩ = false) (h3 : p7 < W.heap.size) (h4 : w.heap.size ≤ p7) (h5 : Below w.heap.size w W) :
    Calls Tryd.prog 28 #[.agg #[.int .u64 (dgl (nu15 n d) 0 : Nat), .int .u64 (dgl (nu15 n d) 1 : Nat), .int .u64 (dgl (nu15 n d) 2 : Nat), .int .u64 (dgl (nu15 n d) 3 : Nat), .int .u64 (dgl (nu15 n d) 4 : Nat), .int .u64 (dgl (nu15 n d) 5 : Nat), .int .u64 (dgl (nu15 n d) 6 : Nat), .int .u64 (dgl (nu15 n d) 7 : Nat)], .agg #[.int .u64 (dgl (up15 d) 0 : Nat), .int .u64 (dgl (up15 d) 1 : Nat), .int .u64 (dgl (up15 d) 2 : Nat), .int .u64 (dgl (up15 d) 3 : Nat), .int .u64 (dgl (up15 d) 4 : Nat), .int .u64 (dgl (up15 d) 5 : Nat), .int .u64 (dgl (up15 d) 6 : Nat), .int .u64 (dgl (up15 d) 7 : Nat)], .int .i64 65, .func (.func 36) #[] #[.pointer (some ⟨p7, 0, none⟩)]] W fun e w' => ∃ r v, e = .returned r ∧ w'.cell? ⟨p7, 0, none⟩ = some v ∧ Rd mkZ w' v (seqL (dg15 n d) 65) ∧ Below w.heap.size w w' := by
  have hsz := h5.size
  have hlt := hg.lt
  refine (walkA_any 36 #[.pointer (some ⟨p7, 0, none⟩)] n d h0 hL ok 65 (fun C j V => TabG V ∧ DgA (dg15 n d) W.heap.size C p7 j w V) W (by decide) (enters_of Tryd.func36 (by kernel_rfl) rfl) (hide fun C j wr hj hC hs hI => ?_) (hide fun C j wr wr' hI hb => ⟨hI.1.apart hb (by omega), hI.2.apart hb hsz⟩) (hide fun C j wr hI => hI.1) (hide fun C hC => ⟨hg.below h5, ⟨_, h1, h2, World.ownsRow_nil _ _ _ _⟩, h3, h5, h4, h3, by omega⟩)).mono ?_
  · obtain ⟨v, g1, g2, g3⟩ := hI.2.v
    have hb := ok.bd j hj
    have h := dgA_any (nof (dg15 n d j)) p7 C j (seqL (dg15 n d) j) v wr g1 g2 g3 (by omega) hs (by omega)
    rw [zof_nof (show -9223372036854775808 ≤ dg15 n d j by omega)] at h
    refine h.mono ?_
    rintro e w' ⟨rfl, v', k1, k2, k3, k4⟩
    rw [← seqL_succ] at k3
    exact ⟨rfl, ⟨hI.1.but k4 (by omega) (by omega), hI.2.but k4 v' k1 k2 k3⟩, ⟨k4.size, fun k ha hb => k4.block k hb (by omega)⟩⟩
  · rintro e w' ⟨rfl, C, hC, hI⟩
    obtain ⟨v, g1, g2, g3⟩ := hI.2.v
    exact ⟨_, v, rfl, g1, Rd.of_owns (by rw [seqL_len]; exact g3), hI.2.bel⟩

set_option maxHeartbeats 2000000 in
theorem divA_walk (k : Int) (p11 x y x2 y2 : Nat) (t : Bool) (w : World) (hS : StB w p11 x y) (hf : ∀ i, w.frozen? ⟨p11, i, none⟩ = false)
    (HNX : Hid (∀ w, Calls Tryd.prog 31 #[.agg #[.int .u64 (dgl (x) 0 : Nat), .int .u64 (dgl (x) 1 : Nat), .int .u64 (dgl (x) 2 : Nat), .int .u64 (dgl (x) 3 : Nat), .int .u64 (dgl (x) 4 : Nat), .int .u64 (dgl (x) 5 : Nat), .int .u64 (dgl (x) 6 : Nat), .int .u64 (dgl (x) 7 : Nat), .int .u64 (dgl (y) 0 : Nat), .int .u64 (dgl (y) 1 : Nat), .int .u64 (dgl (y) 2 : Nat), .int .u64 (dgl (y) 3 : Nat), .int .u64 (dgl (y) 4 : Nat), .int .u64 (dgl (y) 5 : Nat), .int .u64 (dgl (y) 6 : Nat), .int .u64 (dgl (y) 7 : Nat)], .int .i64 k] w fun e w' => e = .returned (.tuple #[.agg #[.int .u64 (dgl (x2) 0 : Nat), .int .u64 (dgl (x2) 1 : Nat), .int .u64 (dgl (x2) 2 : Nat), .int .u64 (dgl (x2) 3 : Nat), .int .u64 (dgl (x2) 4 : Nat), .int .u64 (dgl (x2) 5 : Nat), .int .u64 (dgl (x2) 6 : Nat), .int .u64 (dgl (x2) 7 : Nat), .int .u64 (dgl (y2) 0 : Nat), .int .u64 (dgl (y2) 1 : Nat), .int .u64 (dgl (y2) 2 : Nat), .int .u64 (dgl (y2) 3 : Nat), .int .u64 (dgl (y2) 4 : Nat), .int .u64 (dgl (y2) 5 : Nat), .int .u64 (dgl (y2) 6 : Nat), .int .u64 (dgl (y2) 7 : Nat)], .bool t]) ∧ Below w.heap.size w w')) :
    Calls Tryd.prog 30 #[.int .i64 k, .pointer (some ⟨p11, 0, none⟩)] w fun e w' => e = .returned (.tuple #[]) ∧ StB w' p11 x2 y2 ∧ (∀ i, w'.frozen? ⟨p11, i, none⟩ = false) ∧ Only2 p11 p11 w w' := by
  have HS := hide (show StB w p11 x y ∧ (∀ i, w.frozen? ⟨p11, i, none⟩ = false) ∧ Only2 p11 p11 w w from ⟨hS, hf, rfl, rfl, rfl, Nat.le_refl _, fun k hk _ _ => rfl⟩)
  have hl := hS.lo
  have hl0 := hS.h0
  have hl1 := hS.h1
  have hl2 := hS.h2
  have hl3 := hS.h3
  have hl4 := hS.h4
  have hl5 := hS.h5
  have hl6 := hS.h6
  have hl7 := hS.h7
  clear hS hf
  go_enter Tryd.func30, Tryd.ntmps30
  go_wp2_with fail
  refine (HNX.out _).mono ?_
  rintro e w1 ⟨rfl, hb1⟩
  replace HS := hide (show StB w1 p11 x y ∧ (∀ i, w1.frozen? ⟨p11, i, none⟩ = false) ∧ Only2 p11 p11 w w1 from ⟨HS.out.1.below hb1, fun i => (hb1.frozen (p := ⟨p11, i, none⟩) HS.out.1.lt).trans (HS.out.2.1 i), HS.out.2.2.then hb1⟩)
  clear hb1 hl hl0 hl1 hl2 hl3 hl4 hl5 hl6 hl7
  have hr := HS.out.1.lo
  have hr0 := HS.out.1.h0
  have hr1 := HS.out.1.h1
  have hr2 := HS.out.1.h2
  have hr3 := HS.out.1.h3
  have hr4 := HS.out.1.h4
  have hr5 := HS.out.1.h5
  have hr6 := HS.out.1.h6
  have hr7 := HS.out.1.h7
  have hrl := HS.out.1.lt
  have hrf := HS.out.2.1
  have hst := stB_set16 HS.out.1 x2 y2
  have hon := HS.out.2.2
  go_wp2
  exact bodyPost_end (v := .tuple #[]) (by simp [results, Tryd.results30, go_sem]) rfl ⟨rfl, hst, fun i => by simpa [go_sem] using hrf i, (((((((((((((((hon.setp 0 _).setp 1 _).setp 2 _).setp 3 _).setp 4 _).setp 5 _).setp 6 _).setp 7 _).setp 8 _).setp 9 _).setp 10 _).setp 11 _).setp 12 _).setp 13 _).setp 14 _).setp 15 _⟩
theorem divA_any (z k : Int) (p11 : Nat) (hk : isD k = true) (w : World) (hS : StB w p11 (qz z) (qz (z - 1))) (hf : ∀ i, w.frozen? ⟨p11, i, none⟩ = false) :
    Calls Tryd.prog 30 #[.int .i64 k, .pointer (some ⟨p11, 0, none⟩)] w fun e w' => e = .returned (.tuple #[]) ∧ StB w' p11 (qz (4 * z + k)) (qz (4 * z + k - 1)) ∧ (∀ i, w'.frozen? ⟨p11, i, none⟩ = false) ∧ Only2 p11 p11 w w' :=
  divA_walk k p11 _ _ _ _ true w hS hf (hide fun w => next_yes z k hk w)
theorem stB_block {W W' : World} {p q l : Nat} (h : StB W p q l) (hs : W.heap.size ≤ W'.heap.size) (hb : W'.heap[p]? = W.heap[p]?) : StB W' p q l := by
  have hc : ∀ i, W'.cell? ⟨p, i, none⟩ = W.cell? ⟨p, i, none⟩ := fun i => World.cell?_of_block (w := W) hb
  exact ⟨fun i hi => (hc i).trans (h.lo i hi), (hc 8).trans h.h0, (hc 9).trans h.h1, (hc 10).trans h.h2, (hc 11).trans h.h3, (hc 12).trans h.h4, (hc 13).trans h.h5, (hc 14).trans h.h6, (hc 15).trans h.h7, Nat.lt_of_lt_of_le h.lt hs⟩
theorem walkA_div (n d : Nat) (h0 : d ≠ 0) (hL : Go.bitLen d ≤ 128) (ok : Ok15 n d) (w : World) (hg : TabG w) (p11 : Nat) (hS : StB w p11 (qz 0) (qz (0 - 1))) (hf : ∀ i, w.frozen? ⟨p11, i, none⟩ = false) (hp : 0 < p11) :
    Calls Tryd.prog 28 #[.agg #[.int .u64 (dgl (nu15 n d) 0 : Nat), .int .u64 (dgl (nu15 n d) 1 : Nat), .int .u64 (dgl (nu15 n d) 2 : Nat), .int .u64 (dgl (nu15 n d) 3 : Nat), .int .u64 (dgl (nu15 n d) 4 : Nat), .int .u64 (dgl (nu15 n d) 5 : Nat), .int .u64 (dgl (nu15 n d) 6 : Nat), .int .u64 (dgl (nu15 n d) 7 : Nat)], .agg #[.int .u64 (dgl (up15 d) 0 : Nat), .int .u64 (dgl (up15 d) 1 : Nat), .int .u64 (dgl (up15 d) 2 : Nat), .int .u64 (dgl (up15 d) 3 : Nat), .int .u64 (dgl (up15 d) 4 : Nat), .int .u64 (dgl (up15 d) 5 : Nat), .int .u64 (dgl (up15 d) 6 : Nat), .int .u64 (dgl (up15 d) 7 : Nat)], .int .i64 65, .func (.func 30) #[] #[.pointer (some ⟨p11, 0, none⟩)]] w fun e w' => e = .returned (.agg #[.int .u64 (dgl (qz (lf15 n d 65)) 0 : Nat), .int .u64 (dgl (qz (lf15 n d 65)) 1 : Nat), .int .u64 (dgl (qz (lf15 n d 65)) 2 : Nat), .int .u64 (dgl (qz (lf15 n d 65)) 3 : Nat), .int .u64 (dgl (qz (lf15 n d 65)) 4 : Nat), .int .u64 (dgl (qz (lf15 n d 65)) 5 : Nat), .int .u64 (dgl (qz (lf15 n d 65)) 6 : Nat), .int .u64 (dgl (qz (lf15 n d 65)) 7 : Nat)]) ∧ StB w' p11 (qz (nm15 n d 65)) (qz (nm15 n d 65 - 1)) ∧ (∀ i, w'.frozen? ⟨p11, i, none⟩ = false) ∧ Only2 p11 p11 w w' := by
  have hlt := hS.lt
  refine (walkA_any 30 #[.pointer (some ⟨p11, 0, none⟩)] n d h0 hL ok 65 (fun C j V => TabG V ∧ StB V p11 (qz (nm15 n d j)) (qz (nm15 n d j - 1)) ∧ (∀ i, V.frozen? ⟨p11, i, none⟩ = false) ∧ Only2 p11 p11 w V) w (by decide) (enters_of Tryd.func30 (by kernel_rfl) rfl) (hide fun C j wr hj hC hs hI => ?_) (hide fun C j wr wr' hI hb => ⟨hI.1.apart hb (by omega), stB_block hI.2.1 hb.size (hb.block p11 hI.2.1.lt (.inl hlt)), fun i => (hb.frozen hI.2.1.lt (.inl hlt)).trans (hI.2.2.1 i), ?_⟩) (hide fun C j wr hI => hI.1) (hide fun C hC => ⟨hg, hS, hf, rfl, rfl, rfl, Nat.le_refl _, fun k hk _ _ => rfl⟩)).mono ?_
  · have hb := ok.bd j hj
    refine (divA_any (nm15 n d j) (dg15 n d j) p11 (by rw [isD_iff]; omega) wr hI.2.1 hI.2.2.1).mono ?_
    rintro e w' ⟨rfl, k1, k2, k3⟩
    have ho := hI.2.2.2
    exact ⟨rfl, ⟨hI.1.only k3 hp, k1, k2, ⟨k3.os.trans ho.os, k3.tape.trans ho.tape, k3.output.trans ho.output, Nat.le_trans ho.size k3.size, fun k hk ha hb => (k3.block k (Nat.lt_of_lt_of_le hk ho.size) ha hb).trans (ho.block k hk ha hb)⟩⟩, ⟨k3.size, fun k ha hb => k3.block k (by omega) (by omega) (by omega)⟩⟩
  · have ho := hI.2.2.2
    exact ⟨hb.os.trans ho.os, hb.tape.trans ho.tape, hb.output.trans ho.output, Nat.le_trans ho.size hb.size, fun k hk h1 h2 => (hb.block k (Nat.lt_of_lt_of_le hk ho.size) (.inl hk)).trans (ho.block k hk h1 h2)⟩
  · rintro e w' ⟨rfl, C, hC, hI⟩
    exact ⟨rfl, hI.2⟩
end Go.Proofs.YtbngaajhdaciaaaDoor

/- Contracts: srt.Norm, srt.Left. -/
set_option linter.unusedVariables false
set_option linter.unusedSimpArgs false
set_option maxRecDepth 8000
namespace Go.Proofs.YtbngaajhdaciaaaDoor
open Go.RowKit Plain

set_option maxHeartbeats 1000000 in
theorem normA_walkN (d : Nat) (z : Int) (hz : z = 0 ∨ 120 < z) (HLN : Hid (∀ w, Calls Tryd.prog 44 #[.agg #[.int .u64 (dgl (d) 0 : Nat), .int .u64 (dgl (d) 1 : Nat), .int .u64 (dgl (d) 2 : Nat), .int .u64 (dgl (d) 3 : Nat), .int .u64 (dgl (d) 4 : Nat), .int .u64 (dgl (d) 5 : Nat), .int .u64 (dgl (d) 6 : Nat), .int .u64 (dgl (d) 7 : Nat)]] w fun e w' => e = .returned (.int .i64 z) ∧ Below w.heap.size w w')) (w : World) :
    Calls Tryd.prog 15 #[.agg #[.int .u64 (dgl (d) 0 : Nat), .int .u64 (dgl (d) 1 : Nat), .int .u64 (dgl (d) 2 : Nat), .int .u64 (dgl (d) 3 : Nat), .int .u64 (dgl (d) 4 : Nat), .int .u64 (dgl (d) 5 : Nat), .int .u64 (dgl (d) 6 : Nat), .int .u64 (dgl (d) 7 : Nat)]] w fun e w' => e = .returned (.tuple #[.agg #[.int .u64 0, .int .u64 0, .int .u64 0, .int .u64 0, .int .u64 0, .int .u64 0, .int .u64 0, .int .u64 0], .int .i64 0, .bool false]) ∧ Below w.heap.size w w' := by
  have HS := hide (tm_start w d 24 24)
  have HZ := hide hz
  clear hz
  go_enter Tryd.func15, Tryd.ntmps15
  go_upto_region 1 with fail
  refine wp_gen (fun W => TmSt d w W) ?_ ?_
  · exact HS.out
  clear HS
  rintro W1 h1
  have HS := hide h1
  have hl := h1.lx.1
  clear h1
  go_wp2_with fail
  refine (HLN.out _).mono ?_
  rintro e w2 ⟨rfl, hb2⟩
  replace HS := hide (HS.out.below hb2)
  clear hb2 hl HLN
  rcases HZ.out with h | h
  · subst h
    have hr1 := HS.out.lr.1
    have hrl1 := HS.out.lr.2
    have hrf1 := HS.out.fr
    have HBE := hide HS.out.bel
    clear HS
    go_wp2
    exact bodyPost_ret (v := .tuple #[.agg #[.int .u64 0, .int .u64 0, .int .u64 0, .int .u64 0, .int .u64 0, .int .u64 0, .int .u64 0, .int .u64 0], .int .i64 0, .bool false]) (by simp [results, Tryd.results15, go_sem, hr1, hrl1]) rfl ⟨rfl, below_set8 HBE.out _ (by omega) _ _ _ _ _ _ _ _⟩
  · have h0 : ¬ z = 0 := by omega
    have h1 : (z == 0) = false := by rw [beq_eq_false_iff_ne]; omega
    have hr1 := HS.out.lr.1
    have hrl1 := HS.out.lr.2
    have hrf1 := HS.out.fr
    have HBE := hide HS.out.bel
    clear HS
    go_wp2
    exact bodyPost_ret (v := .tuple #[.agg #[.int .u64 0, .int .u64 0, .int .u64 0, .int .u64 0, .int .u64 0, .int .u64 0, .int .u64 0, .int .u64 0], .int .i64 0, .bool false]) (by simp [results, Tryd.results15, go_sem, hr1, hrl1]) rfl ⟨rfl, below_set8 HBE.out _ (by omega) _ _ _ _ _ _ _ _⟩

set_option maxHeartbeats 1000000 in
theorem normA_walkY (d X : Nat) (z b : Int) (hz : 0 < z) (hz2 : z ≤ 120) (hb : IntKind.i64.wrap (128 - z) = b) (HLN : Hid (∀ w, Calls Tryd.prog 44 #[.agg #[.int .u64 (dgl (d) 0 : Nat), .int .u64 (dgl (d) 1 : Nat), .int .u64 (dgl (d) 2 : Nat), .int .u64 (dgl (d) 3 : Nat), .int .u64 (dgl (d) 4 : Nat), .int .u64 (dgl (d) 5 : Nat), .int .u64 (dgl (d) 6 : Nat), .int .u64 (dgl (d) 7 : Nat)]] w fun e w' => e = .returned (.int .i64 z) ∧ Below w.heap.size w w'))
    (HSH : Hid (∀ w, Calls Tryd.prog 29 #[.agg #[.int .u64 (dgl (d) 0 : Nat), .int .u64 (dgl (d) 1 : Nat), .int .u64 (dgl (d) 2 : Nat), .int .u64 (dgl (d) 3 : Nat), .int .u64 (dgl (d) 4 : Nat), .int .u64 (dgl (d) 5 : Nat), .int .u64 (dgl (d) 6 : Nat), .int .u64 (dgl (d) 7 : Nat)], .int .i64 b] w fun e w' => e = .returned (.agg #[.int .u64 (dgl (X) 0 : Nat), .int .u64 (dgl (X) 1 : Nat), .int .u64 (dgl (X) 2 : Nat), .int .u64 (dgl (X) 3 : Nat), .int .u64 (dgl (X) 4 : Nat), .int .u64 (dgl (X) 5 : Nat), .int .u64 (dgl (X) 6 : Nat), .int .u64 (dgl (X) 7 : Nat)]) ∧ Below w.heap.size w w')) (w : World) :
    Calls Tryd.prog 15 #[.agg #[.int .u64 (dgl (d) 0 : Nat), .int .u64 (dgl (d) 1 : Nat), .int .u64 (dgl (d) 2 : Nat), .int .u64 (dgl (d) 3 : Nat), .int .u64 (dgl (d) 4 : Nat), .int .u64 (dgl (d) 5 : Nat), .int .u64 (dgl (d) 6 : Nat), .int .u64 (dgl (d) 7 : Nat)]] w fun e w' => e = .returned (.tuple #[.agg #[.int .u64 (dgl (X) 0 : Nat), .int .u64 (dgl (X) 1 : Nat), .int .u64 (dgl (X) 2 : Nat), .int .u64 (dgl (X) 3 : Nat), .int .u64 (dgl (X) 4 : Nat), .int .u64 (dgl (X) 5 : Nat), .int .u64 (dgl (X) 6 : Nat), .int .u64 (dgl (X) 7 : Nat)], .int .i64 b, .bool true]) ∧ Below w.heap.size w w' := by
  have HS := hide (tm_start w d 24 24)
  have h0 : ¬ z = 0 := by omega
  have h1 : (z == 0) = false := by rw [beq_eq_false_iff_ne]; omega
  have h2 : ¬ 120 < z := by omega
  go_enter Tryd.func15, Tryd.ntmps15
  go_upto_region 1 with fail
  refine wp_gen (fun W => TmSt d w W) ?_ ?_
  · exact HS.out
  clear HS
  rintro W1 g1
  have HS := hide g1
  have hl := g1.lx.1
  clear g1
  go_wp2_with fail
  refine (HLN.out _).mono ?_
  rintro e w2 ⟨rfl, hb2⟩
  replace HS := hide (HS.out.below hb2)
  clear hb2 hl HLN
  have hl := HS.out.lx.1
  go_wp2_with fail
  refine (HSH.out _).mono ?_
  rintro e w3 ⟨rfl, hb3⟩
  replace HS := hide (HS.out.below hb3)
  clear hb3 hl HSH
  have hr1 := HS.out.lr.1
  have hrl1 := HS.out.lr.2
  have hrf1 := HS.out.fr
  have HBE := hide HS.out.bel
  clear HS
  go_wp2
  exact bodyPost_ret (v := .tuple #[.agg #[.int .u64 (dgl (X) 0 : Nat), .int .u64 (dgl (X) 1 : Nat), .int .u64 (dgl (X) 2 : Nat), .int .u64 (dgl (X) 3 : Nat), .int .u64 (dgl (X) 4 : Nat), .int .u64 (dgl (X) 5 : Nat), .int .u64 (dgl (X) 6 : Nat), .int .u64 (dgl (X) 7 : Nat)], .int .i64 b, .bool true]) (by simp [results, Tryd.results15, go_sem, hr1, hrl1]) rfl ⟨rfl, below_set8 HBE.out _ (by omega) _ _ _ _ _ _ _ _⟩

theorem normA_no (d : Nat) (hd : d < QQ) (h : Go.bitLen d = 0 ∨ 120 < Go.bitLen d) (w : World) :
    Calls Tryd.prog 15 #[.agg #[.int .u64 (dgl (d) 0 : Nat), .int .u64 (dgl (d) 1 : Nat), .int .u64 (dgl (d) 2 : Nat), .int .u64 (dgl (d) 3 : Nat), .int .u64 (dgl (d) 4 : Nat), .int .u64 (dgl (d) 5 : Nat), .int .u64 (dgl (d) 6 : Nat), .int .u64 (dgl (d) 7 : Nat)]] w fun e w' => e = .returned (.tuple #[.agg #[.int .u64 0, .int .u64 0, .int .u64 0, .int .u64 0, .int .u64 0, .int .u64 0, .int .u64 0, .int .u64 0], .int .i64 0, .bool false]) ∧ Below w.heap.size w w' :=
  normA_walkN d ((Go.bitLen d : Nat) : Int) (by omega) (hide fun w => wideLen_any d hd w) w
theorem normA_yes (d : Nat) (hd : d < QQ) (h0 : 0 < Go.bitLen d) (hL : Go.bitLen d ≤ 120) (w : World) :
    Calls Tryd.prog 15 #[.agg #[.int .u64 (dgl (d) 0 : Nat), .int .u64 (dgl (d) 1 : Nat), .int .u64 (dgl (d) 2 : Nat), .int .u64 (dgl (d) 3 : Nat), .int .u64 (dgl (d) 4 : Nat), .int .u64 (dgl (d) 5 : Nat), .int .u64 (dgl (d) 6 : Nat), .int .u64 (dgl (d) 7 : Nat)]] w fun e w' => e = .returned (.tuple #[.agg #[.int .u64 (dgl (up15 d) 0 : Nat), .int .u64 (dgl (up15 d) 1 : Nat), .int .u64 (dgl (up15 d) 2 : Nat), .int .u64 (dgl (up15 d) 3 : Nat), .int .u64 (dgl (up15 d) 4 : Nat), .int .u64 (dgl (up15 d) 5 : Nat), .int .u64 (dgl (up15 d) 6 : Nat), .int .u64 (dgl (up15 d) 7 : Nat)], .int .i64 ((128 - Go.bitLen d : Nat) : Int), .bool true]) ∧ Below w.heap.size w w' :=
  normA_walkY d (up15 d) ((Go.bitLen d : Nat) : Int) _ (by omega) (by omega) (by rw [IntKind.wrap_i64]; omega) (hide fun w => wideLen_any d hd w) (hide fun w => by
    have h := wideShl_any d ((128 - Go.bitLen d : Nat) : Int) hd w
    rw [show roomI ((128 - Go.bitLen d : Nat) : Int) = ((128 - Go.bitLen d : Nat) : Int) by unfold roomI; omega, sh_up] at h
    exact h) w

/-- What Left goes by: dividend, divisor, its result. -/
structure Lf3 (n d : Nat) (w W : World) : Prop where
  t : TwSt n d w W
  lr : LiesF W (w.heap.size + 2) (fun _ => 0)
  fr : ∀ i, W.frozen? ⟨w.heap.size + 2, i, none⟩ = false
theorem Lf3.bel {n d : Nat} {w W : World} (h : Lf3 n d w W) : Below w.heap.size w W := h.t.bel
theorem Lf3.under {n d : Nat} {w W W' : World} (h : Lf3 n d w W) {C : Nat} (hb : Below C W W') (hc : w.heap.size + 2 < C) : Lf3 n d w W' :=
  ⟨h.t.under hb (by omega), lies_box h.lr hb hc, fun i => (hb.frozen (p := ⟨w.heap.size + 2, i, none⟩) hc).trans (h.fr i)⟩
theorem Lf3.below {n d : Nat} {w W W' : World} (h : Lf3 n d w W) (hb : Below W.heap.size W W') : Lf3 n d w W' := h.under hb h.lr.2
theorem lf3_start (n d : Nat) (w : World) (e1 e2 e3 : TypeId) : Lf3 n d w (((w.alloc (.cells #[.int .u64 (dgl (n) 0 : Nat), .int .u64 (dgl (n) 1 : Nat), .int .u64 (dgl (n) 2 : Nat), .int .u64 (dgl (n) 3 : Nat), .int .u64 (dgl (n) 4 : Nat), .int .u64 (dgl (n) 5 : Nat), .int .u64 (dgl (n) 6 : Nat), .int .u64 (dgl (n) 7 : Nat)] e1)).alloc (.cells #[.int .u64 (dgl (d) 0 : Nat), .int .u64 (dgl (d) 1 : Nat), .int .u64 (dgl (d) 2 : Nat), .int .u64 (dgl (d) 3 : Nat), .int .u64 (dgl (d) 4 : Nat), .int .u64 (dgl (d) 5 : Nat), .int .u64 (dgl (d) 6 : Nat), .int .u64 (dgl (d) 7 : Nat)] e2)).alloc (.cells #[.int .u64 0, .int .u64 0, .int .u64 0, .int .u64 0, .int .u64 0, .int .u64 0, .int .u64 0, .int .u64 0] e3)) := by
  have h3 := liesF_new ((w.alloc (.cells #[.int .u64 (dgl (n) 0 : Nat), .int .u64 (dgl (n) 1 : Nat), .int .u64 (dgl (n) 2 : Nat), .int .u64 (dgl (n) 3 : Nat), .int .u64 (dgl (n) 4 : Nat), .int .u64 (dgl (n) 5 : Nat), .int .u64 (dgl (n) 6 : Nat), .int .u64 (dgl (n) 7 : Nat)] e1)).alloc (.cells #[.int .u64 (dgl (d) 0 : Nat), .int .u64 (dgl (d) 1 : Nat), .int .u64 (dgl (d) 2 : Nat), .int .u64 (dgl (d) 3 : Nat), .int .u64 (dgl (d) 4 : Nat), .int .u64 (dgl (d) 5 : Nat), .int .u64 (dgl (d) 6 : Nat), .int .u64 (dgl (d) 7 : Nat)] e2)) (fun _ => 0) e3
  rw [World.size_alloc, World.size_alloc] at h3
  exact ⟨(twSt_start n d w e1 e2).below (below_allocs _ _), h3, fun i => by simp [go_sem]⟩

set_option maxHeartbeats 1000000 in
theorem leftA_far (n d : Nat) (s : Int) (hs : s < 0 ∨ 65 < s) (w : World) :
    Calls Tryd.prog 14 #[.agg #[.int .u64 (dgl (n) 0 : Nat), .int .u64 (dgl (n) 1 : Nat), .int .u64 (dgl (n) 2 : Nat), .int .u64 (dgl (n) 3 : Nat), .int .u64 (dgl (n) 4 : Nat), .int .u64 (dgl (n) 5 : Nat), .int .u64 (dgl (n) 6 : Nat), .int .u64 (dgl (n) 7 : Nat)], .agg #[.int .u64 (dgl (d) 0 : Nat), .int .u64 (dgl (d) 1 : Nat), .int .u64 (dgl (d) 2 : Nat), .int .u64 (dgl (d) 3 : Nat), .int .u64 (dgl (d) 4 : Nat), .int .u64 (dgl (d) 5 : Nat), .int .u64 (dgl (d) 6 : Nat), .int .u64 (dgl (d) 7 : Nat)], .int .i64 s] w fun e w' => e = .returned (.tuple #[.agg #[.int .u64 0, .int .u64 0, .int .u64 0, .int .u64 0, .int .u64 0, .int .u64 0, .int .u64 0, .int .u64 0], .bool false, .int .i64 4]) ∧ Below w.heap.size w w' := by
  have HS := hide (lf3_start n d w 24 24 24)
  have HZ := hide hs
  clear hs
  go_enter Tryd.func14, Tryd.ntmps14
  go_upto_region 1 with fail
  refine wp_gen (fun W => Lf3 n d w W) ?_ ?_
  · exact HS.out
  clear HS
  rintro W1 h1
  have HS := hide h1
  clear h1
  rcases HZ.out with h | h
  · skip
    have hr1 := HS.out.lr.1
    have hrl1 := HS.out.lr.2
    have hrf1 := HS.out.fr
    have HBE := hide HS.out.bel
    clear HS
    go_wp2
    exact bodyPost_ret (v := .tuple #[.agg #[.int .u64 0, .int .u64 0, .int .u64 0, .int .u64 0, .int .u64 0, .int .u64 0, .int .u64 0, .int .u64 0], .bool false, .int .i64 4]) (by simp [results, Tryd.results14, go_sem, hr1, hrl1]) rfl ⟨rfl, below_set8 HBE.out _ (by omega) _ _ _ _ _ _ _ _⟩
  · have h0 : ¬ s < 0 := by omega
    have hr1 := HS.out.lr.1
    have hrl1 := HS.out.lr.2
    have hrf1 := HS.out.fr
    have HBE := hide HS.out.bel
    clear HS
    go_wp2
    exact bodyPost_ret (v := .tuple #[.agg #[.int .u64 0, .int .u64 0, .int .u64 0, .int .u64 0, .int .u64 0, .int .u64 0, .int .u64 0, .int .u64 0], .bool false, .int .i64 4]) (by simp [results, Tryd.results14, go_sem, hr1, hrl1]) rfl ⟨rfl, below_set8 HBE.out _ (by omega) _ _ _ _ _ _ _ _⟩

set_option maxHeartbeats 1000000 in
theorem leftA_err (n d : Nat) (s ez : Int) (hs : 0 ≤ s) (hs2 : s ≤ 65) (he : (ez == 0) = false) (HM : Hid (∀ w, Calls Tryd.prog 21 #[.agg #[.int .u64 (dgl (n) 0 : Nat), .int .u64 (dgl (n) 1 : Nat), .int .u64 (dgl (n) 2 : Nat), .int .u64 (dgl (n) 3 : Nat), .int .u64 (dgl (n) 4 : Nat), .int .u64 (dgl (n) 5 : Nat), .int .u64 (dgl (n) 6 : Nat), .int .u64 (dgl (n) 7 : Nat)], .agg #[.int .u64 (dgl (d) 0 : Nat), .int .u64 (dgl (d) 1 : Nat), .int .u64 (dgl (d) 2 : Nat), .int .u64 (dgl (d) 3 : Nat), .int .u64 (dgl (d) 4 : Nat), .int .u64 (dgl (d) 5 : Nat), .int .u64 (dgl (d) 6 : Nat), .int .u64 (dgl (d) 7 : Nat)]] w fun e w' => e = .returned (.int .i64 ez) ∧ Below w.heap.size w w')) (w : World) :
    Calls Tryd.prog 14 #[.agg #[.int .u64 (dgl (n) 0 : Nat), .int .u64 (dgl (n) 1 : Nat), .int .u64 (dgl (n) 2 : Nat), .int .u64 (dgl (n) 3 : Nat), .int .u64 (dgl (n) 4 : Nat), .int .u64 (dgl (n) 5 : Nat), .int .u64 (dgl (n) 6 : Nat), .int .u64 (dgl (n) 7 : Nat)], .agg #[.int .u64 (dgl (d) 0 : Nat), .int .u64 (dgl (d) 1 : Nat), .int .u64 (dgl (d) 2 : Nat), .int .u64 (dgl (d) 3 : Nat), .int .u64 (dgl (d) 4 : Nat), .int .u64 (dgl (d) 5 : Nat), .int .u64 (dgl (d) 6 : Nat), .int .u64 (dgl (d) 7 : Nat)], .int .i64 s] w fun e w' => e = .returned (.tuple #[.agg #[.int .u64 0, .int .u64 0, .int .u64 0, .int .u64 0, .int .u64 0, .int .u64 0, .int .u64 0, .int .u64 0], .bool false, .int .i64 ez]) ∧ Below w.heap.size w w' := by
  have HS := hide (lf3_start n d w 24 24 24)
  have h0 : ¬ s < 0 := by omega
  have h1 : ¬ 65 < s := by omega
  go_enter Tryd.func14, Tryd.ntmps14
  go_upto_region 1 with fail
  refine wp_gen (fun W => Lf3 n d w W) ?_ ?_
  · exact HS.out
  clear HS
  rintro W1 g1
  have HS := hide g1
  have hl1 := g1.t.la.1
  have hl2 := g1.t.lb.1
  clear g1
  go_wp2_with fail
  refine (HM.out _).mono ?_
  rintro e w2 ⟨rfl, hb2⟩
  replace HS := hide (HS.out.below hb2)
  clear hb2 hl1 hl2 HM
  have hr1 := HS.out.lr.1
  have hrl1 := HS.out.lr.2
  have hrf1 := HS.out.fr
  have HBE := hide HS.out.bel
  clear HS
  go_wp2
  exact bodyPost_ret (v := .tuple #[.agg #[.int .u64 0, .int .u64 0, .int .u64 0, .int .u64 0, .int .u64 0, .int .u64 0, .int .u64 0, .int .u64 0], .bool false, .int .i64 ez]) (by simp [results, Tryd.results14, go_sem, hr1, hrl1]) rfl ⟨rfl, below_set8 HBE.out _ (by omega) _ _ _ _ _ _ _ _⟩

set_option maxHeartbeats 4000000 in
theorem leftA_walkP (n d D X r r2 steps : Nat) (b : Int) (hst : steps ≤ 65) (HM : Hid (∀ w, Calls Tryd.prog 21 #[.agg #[.int .u64 (dgl (n) 0 : Nat), .int .u64 (dgl (n) 1 : Nat), .int .u64 (dgl (n) 2 : Nat), .int .u64 (dgl (n) 3 : Nat), .int .u64 (dgl (n) 4 : Nat), .int .u64 (dgl (n) 5 : Nat), .int .u64 (dgl (n) 6 : Nat), .int .u64 (dgl (n) 7 : Nat)], .agg #[.int .u64 (dgl (d) 0 : Nat), .int .u64 (dgl (d) 1 : Nat), .int .u64 (dgl (d) 2 : Nat), .int .u64 (dgl (d) 3 : Nat), .int .u64 (dgl (d) 4 : Nat), .int .u64 (dgl (d) 5 : Nat), .int .u64 (dgl (d) 6 : Nat), .int .u64 (dgl (d) 7 : Nat)]] w fun e w' => e = .returned (.int .i64 0) ∧ Below w.heap.size w w'))
    (HNO : Hid (∀ w, Calls Tryd.prog 15 #[.agg #[.int .u64 (dgl (d) 0 : Nat), .int .u64 (dgl (d) 1 : Nat), .int .u64 (dgl (d) 2 : Nat), .int .u64 (dgl (d) 3 : Nat), .int .u64 (dgl (d) 4 : Nat), .int .u64 (dgl (d) 5 : Nat), .int .u64 (dgl (d) 6 : Nat), .int .u64 (dgl (d) 7 : Nat)]] w fun e w' => e = .returned (.tuple #[.agg #[.int .u64 (dgl (D) 0 : Nat), .int .u64 (dgl (D) 1 : Nat), .int .u64 (dgl (D) 2 : Nat), .int .u64 (dgl (D) 3 : Nat), .int .u64 (dgl (D) 4 : Nat), .int .u64 (dgl (D) 5 : Nat), .int .u64 (dgl (D) 6 : Nat), .int .u64 (dgl (D) 7 : Nat)], .int .i64 b, .bool true]) ∧ Below w.heap.size w w'))
    (HSH : Hid (∀ w, Calls Tryd.prog 29 #[.agg #[.int .u64 (dgl (n) 0 : Nat), .int .u64 (dgl (n) 1 : Nat), .int .u64 (dgl (n) 2 : Nat), .int .u64 (dgl (n) 3 : Nat), .int .u64 (dgl (n) 4 : Nat), .int .u64 (dgl (n) 5 : Nat), .int .u64 (dgl (n) 6 : Nat), .int .u64 (dgl (n) 7 : Nat)], .int .i64 b] w fun e w' => e = .returned (.agg #[.int .u64 (dgl (X) 0 : Nat), .int .u64 (dgl (X) 1 : Nat), .int .u64 (dgl (X) 2 : Nat), .int .u64 (dgl (X) 3 : Nat), .int .u64 (dgl (X) 4 : Nat), .int .u64 (dgl (X) 5 : Nat), .int .u64 (dgl (X) 6 : Nat), .int .u64 (dgl (X) 7 : Nat)]) ∧ Below w.heap.size w w'))
    (HWK : Hid (∀ w, TabG w → Calls Tryd.prog 28 #[.agg #[.int .u64 (dgl (X) 0 : Nat), .int .u64 (dgl (X) 1 : Nat), .int .u64 (dgl (X) 2 : Nat), .int .u64 (dgl (X) 3 : Nat), .int .u64 (dgl (X) 4 : Nat), .int .u64 (dgl (X) 5 : Nat), .int .u64 (dgl (X) 6 : Nat), .int .u64 (dgl (X) 7 : Nat)], .agg #[.int .u64 (dgl (D) 0 : Nat), .int .u64 (dgl (D) 1 : Nat), .int .u64 (dgl (D) 2 : Nat), .int .u64 (dgl (D) 3 : Nat), .int .u64 (dgl (D) 4 : Nat), .int .u64 (dgl (D) 5 : Nat), .int .u64 (dgl (D) 6 : Nat), .int .u64 (dgl (D) 7 : Nat)], .int .i64 (steps : Nat), .func (.func 42) #[] #[]] w fun e w' => e = .returned (.agg #[.int .u64 (dgl (r) 0 : Nat), .int .u64 (dgl (r) 1 : Nat), .int .u64 (dgl (r) 2 : Nat), .int .u64 (dgl (r) 3 : Nat), .int .u64 (dgl (r) 4 : Nat), .int .u64 (dgl (r) 5 : Nat), .int .u64 (dgl (r) 6 : Nat), .int .u64 (dgl (r) 7 : Nat)]) ∧ Below w.heap.size w w'))
    (HMI : Hid (∀ w, Calls Tryd.prog 32 #[.agg #[.int .u64 (dgl (r) 0 : Nat), .int .u64 (dgl (r) 1 : Nat), .int .u64 (dgl (r) 2 : Nat), .int .u64 (dgl (r) 3 : Nat), .int .u64 (dgl (r) 4 : Nat), .int .u64 (dgl (r) 5 : Nat), .int .u64 (dgl (r) 6 : Nat), .int .u64 (dgl (r) 7 : Nat)]] w fun e w' => e = .returned (.bool false) ∧ Below w.heap.size w w')) (w : World) (hg : TabG w) :
    Calls Tryd.prog 14 #[.agg #[.int .u64 (dgl (n) 0 : Nat), .int .u64 (dgl (n) 1 : Nat), .int .u64 (dgl (n) 2 : Nat), .int .u64 (dgl (n) 3 : Nat), .int .u64 (dgl (n) 4 : Nat), .int .u64 (dgl (n) 5 : Nat), .int .u64 (dgl (n) 6 : Nat), .int .u64 (dgl (n) 7 : Nat)], .agg #[.int .u64 (dgl (d) 0 : Nat), .int .u64 (dgl (d) 1 : Nat), .int .u64 (dgl (d) 2 : Nat), .int .u64 (dgl (d) 3 : Nat), .int .u64 (dgl (d) 4 : Nat), .int .u64 (dgl (d) 5 : Nat), .int .u64 (dgl (d) 6 : Nat), .int .u64 (dgl (d) 7 : Nat)], .int .i64 (steps : Nat)] w fun e w' => e = .returned (.tuple #[.agg #[.int .u64 (dgl (r) 0 : Nat), .int .u64 (dgl (r) 1 : Nat), .int .u64 (dgl (r) 2 : Nat), .int .u64 (dgl (r) 3 : Nat), .int .u64 (dgl (r) 4 : Nat), .int .u64 (dgl (r) 5 : Nat), .int .u64 (dgl (r) 6 : Nat), .int .u64 (dgl (r) 7 : Nat)], .bool false, .int .i64 0]) ∧ Below w.heap.size w w' := by
  have HS := hide (lf3_start n d w 24 24 24)
  have HG := hide hg
  have h0 : ¬ (steps : Int) < 0 := by omega
  have h1 : ¬ 65 < (steps : Int) := by omega
  clear hg
  go_enter Tryd.func14, Tryd.ntmps14
  go_upto_region 1 with fail
  refine wp_gen (fun W => Lf3 n d w W) ?_ ?_
  · exact HS.out
  clear HS
  rintro W1 g1
  have HS := hide g1
  have hl1 := g1.t.la.1
  have hl2 := g1.t.lb.1
  clear g1
  go_wp2_with fail
  refine (HM.out _).mono ?_
  rintro e w2 ⟨rfl, hb2⟩
  replace HS := hide (HS.out.below hb2)
  clear hb2 hl1 hl2 HM
  have hl2 := HS.out.t.lb.1
  go_wp2_with fail
  refine (HNO.out _).mono ?_
  rintro e w3 ⟨rfl, hb3⟩
  replace HS := hide (HS.out.below hb3)
  clear hb3 hl2 HNO
  have HP10 := hide HS.out.lr.2
  go_upto_region 7 with fail
  refine wp_gen (fun W => Lf3 n d w W ∧ LiesF W w3.heap.size (dgl D) ∧ TabG W) ⟨HS.out.below (below_allocs _ _), liesF_new w3 (dgl D) _, HG.out.below (below_trans HS.out.bel (below_allocs _ _))⟩ ?_
  clear HS HG
  generalize w3.heap.size = p10 at *
  rintro W7 h7
  have HS := hide h7
  clear h7
  refine wp_region_grow 7 [(34, .val (.agg #[.int .u64 (dgl (n) 0 : Nat), .int .u64 (dgl (n) 1 : Nat), .int .u64 (dgl (n) 2 : Nat), .int .u64 (dgl (n) 3 : Nat), .int .u64 (dgl (n) 4 : Nat), .int .u64 (dgl (n) 5 : Nat), .int .u64 (dgl (n) 6 : Nat), .int .u64 (dgl (n) 7 : Nat)])), (35, .val (.int .i64 b)), (36, .val (.agg #[.int .u64 (dgl (X) 0 : Nat), .int .u64 (dgl (X) 1 : Nat), .int .u64 (dgl (X) 2 : Nat), .int .u64 (dgl (X) 3 : Nat), .int .u64 (dgl (X) 4 : Nat), .int .u64 (dgl (X) 5 : Nat), .int .u64 (dgl (X) 6 : Nat), .int .u64 (dgl (X) 7 : Nat)])), (37, .val (.agg #[.int .u64 (dgl (D) 0 : Nat), .int .u64 (dgl (D) 1 : Nat), .int .u64 (dgl (D) 2 : Nat), .int .u64 (dgl (D) 3 : Nat), .int .u64 (dgl (D) 4 : Nat), .int .u64 (dgl (D) 5 : Nat), .int .u64 (dgl (D) 6 : Nat), .int .u64 (dgl (D) 7 : Nat)])), (38, .val (.int .i64 (steps : Nat))), (39, .val (.agg #[.int .u64 (dgl (r) 0 : Nat), .int .u64 (dgl (r) 1 : Nat), .int .u64 (dgl (r) 2 : Nat), .int .u64 (dgl (r) 3 : Nat), .int .u64 (dgl (r) 4 : Nat), .int .u64 (dgl (r) 5 : Nat), .int .u64 (dgl (r) 6 : Nat), .int .u64 (dgl (r) 7 : Nat)])), (13, .box p10 (fun _ => 0))]
    (fun W => Lf3 n d w W ∧ LiesF W p10 (dgl D) ∧ TabG W) mixedOk (by kernel_rfl) (by kernel_rfl) (⟨HS.out.1.below (Below.refl _ _).drew, HS.out.2.1.below (Below.refl _ _).drew, HS.out.2.2.below (Below.refl _ _).drew⟩) (fun W W' h hb => ⟨h.1.below hb, h.2.1.below hb, h.2.2.below hb⟩) ?_ ?_
  · refine gSt (gStep_run rfl ?_) ?_
    · intro ρ W hC hc hf hL
      have e3 : ρ (.tmp 3) = .pointer (some ⟨w.heap.size, 0, none⟩) := hL 3 (by decide +kernel)
      have hl := hC.1.t.la.1
      simp [go_sem, hc, hf, e3, hl]
      exact ⟨Below.refl _ _, rfl⟩
    refine gSt (gStep_run rfl (gRun_move 11 35 (.inl rfl) rfl (by decide +kernel) (fun v w h => h))) ?_
    refine gSt (gStep_run rfl ?_) ?_
    · intro ρ W hC hc hf hL
      have e34 : ρ (.tmp 34) = .agg #[.int .u64 (dgl (n) 0 : Nat), .int .u64 (dgl (n) 1 : Nat), .int .u64 (dgl (n) 2 : Nat), .int .u64 (dgl (n) 3 : Nat), .int .u64 (dgl (n) 4 : Nat), .int .u64 (dgl (n) 5 : Nat), .int .u64 (dgl (n) 6 : Nat), .int .u64 (dgl (n) 7 : Nat)] := hL 34 (by decide +kernel)
      have e35 : ρ (.tmp 35) = .int .i64 b := hL 35 (by decide +kernel)
      simp [go_sem, hc, hf, e34, e35]
      refine (HSH.out W).mono ?_
      rintro e w' ⟨rfl, hb⟩
      exact ⟨_, rfl, by first | exact hb | (subst hb; exact Below.refl _ _), rfl⟩
    refine gSt (gStep_run rfl ?_) ?_
    · intro ρ W hC hc hf hL
      have e10 : ρ (.tmp 10) = .pointer (some ⟨p10, 0, none⟩) := hL 10 (by decide +kernel)
      have hl := hC.2.1.1
      simp [go_sem, hc, hf, e10, hl]
      exact ⟨Below.refl _ _, rfl⟩
    refine gSt (gStep_run rfl (gRun_move 2 38 (.inl rfl) rfl (by decide +kernel) (fun v w h => h))) ?_
    refine gSt (gStep_run rfl ?_) ?_
    · intro ρ W hC hc hf hL
      have e36 : ρ (.tmp 36) = .agg #[.int .u64 (dgl (X) 0 : Nat), .int .u64 (dgl (X) 1 : Nat), .int .u64 (dgl (X) 2 : Nat), .int .u64 (dgl (X) 3 : Nat), .int .u64 (dgl (X) 4 : Nat), .int .u64 (dgl (X) 5 : Nat), .int .u64 (dgl (X) 6 : Nat), .int .u64 (dgl (X) 7 : Nat)] := hL 36 (by decide +kernel)
      have e37 : ρ (.tmp 37) = .agg #[.int .u64 (dgl (D) 0 : Nat), .int .u64 (dgl (D) 1 : Nat), .int .u64 (dgl (D) 2 : Nat), .int .u64 (dgl (D) 3 : Nat), .int .u64 (dgl (D) 4 : Nat), .int .u64 (dgl (D) 5 : Nat), .int .u64 (dgl (D) 6 : Nat), .int .u64 (dgl (D) 7 : Nat)] := hL 37 (by decide +kernel)
      have e38 : ρ (.tmp 38) = .int .i64 (steps : Nat) := hL 38 (by decide +kernel)
      simp [go_sem, hc, hf, e36, e37, e38]
      refine (HWK.out W hC.2.2).mono ?_
      rintro e w' ⟨rfl, hb⟩
      exact ⟨_, rfl, by first | exact hb | (subst hb; exact Below.refl _ _), rfl⟩
    refine gSt (gStep_run rfl ?_) ?_
    · intro ρ W hC hc hf hL
      simp [go_sem, hc, hf]
      exact ⟨below_allocs _ _, _, rfl, Nat.le_of_lt hC.2.1.2, liesF_new _ (fun _ => 0) _, fun i => by simp [go_sem]⟩
    exact gSt0
  · intro W hC
    refine gFi 34 rfl ?_
    rintro _ rfl
    refine gFi 35 rfl ?_
    rintro _ rfl
    refine gFi 36 rfl ?_
    rintro _ rfl
    refine gFi 37 rfl ?_
    rintro _ rfl
    refine gFi 38 rfl ?_
    rintro _ rfl
    refine gFi 39 rfl ?_
    rintro _ rfl
    refine gFi 13 rfl ?_
    rintro _ ⟨p13, rfl, q13, l13, z13⟩
    refine gFi0 ?_
    simp only [List.drop_succ_cons, List.drop_zero, Act.put, List.setIfInBounds_toArray, List.set_cons_succ, List.set_cons_zero]
    have HS2 := hide (show Lf3 n d w W ∧ LiesF W p13 (fun _ => 0) ∧ (∀ i, W.frozen? ⟨p13, i, none⟩ = false) from ⟨hC.1, l13, z13⟩)
    have h13 := l13.1
    have hl13 := l13.2
    have hf13 := z13
    clear hC HS l13 z13
    have hgt : w.heap.size + 2 < p13 := by have := HP10.out; omega
    go_upto_region 8 with fail
    refine wp_gen (fun V => Lf3 n d w V ∧ LiesF V p13 (dgl r)) ⟨HS2.out.1.under (below_set8 (Below.refl p13 W) p13 (Nat.le_refl _) _ _ _ _ _ _ _ _) hgt, set8_same W p13 (dgl r) (fun _ => 0) HS2.out.2.1⟩ ?_
    clear HS2 h13 hl13 hf13
    rintro W8 h8
    have HS := hide h8
    have hl := h8.2.1
    clear h8
    go_wp2_with fail
    refine (HMI.out _).mono ?_
    rintro e w8 ⟨rfl, hb8⟩
    replace HS := hide (show Lf3 n d w w8 ∧ LiesF w8 p13 (dgl r) from ⟨HS.out.1.below hb8, HS.out.2.below hb8⟩)
    clear hb8 hl HMI
    have hl13 := HS.out.2.1
    have hr1 := HS.out.1.lr.1
    have hrl1 := HS.out.1.lr.2
    have hrf1 := HS.out.1.fr
    have HBE := hide HS.out.1.bel
    clear HS
    go_wp2
    exact bodyPost_ret (v := .tuple #[.agg #[.int .u64 (dgl (r) 0 : Nat), .int .u64 (dgl (r) 1 : Nat), .int .u64 (dgl (r) 2 : Nat), .int .u64 (dgl (r) 3 : Nat), .int .u64 (dgl (r) 4 : Nat), .int .u64 (dgl (r) 5 : Nat), .int .u64 (dgl (r) 6 : Nat), .int .u64 (dgl (r) 7 : Nat)], .bool false, .int .i64 0]) (by simp [results, Tryd.results14, go_sem, hr1, hrl1]) rfl ⟨rfl, below_set8 HBE.out _ (by omega) _ _ _ _ _ _ _ _⟩
    

set_option maxHeartbeats 4000000 in
theorem leftA_walkN (n d D X r r2 steps : Nat) (b : Int) (hst : steps ≤ 65) (HM : Hid (∀ w, Calls Tryd.prog 21 #[.agg #[.int .u64 (dgl (n) 0 : Nat), .int .u64 (dgl (n) 1 : Nat), .int .u64 (dgl (n) 2 : Nat), .int .u64 (dgl (n) 3 : Nat), .int .u64 (dgl (n) 4 : Nat), .int .u64 (dgl (n) 5 : Nat), .int .u64 (dgl (n) 6 : Nat), .int .u64 (dgl (n) 7 : Nat)], .agg #[.int .u64 (dgl (d) 0 : Nat), .int .u64 (dgl (d) 1 : Nat), .int .u64 (dgl (d) 2 : Nat), .int .u64 (dgl (d) 3 : Nat), .int .u64 (dgl (d) 4 : Nat), .int .u64 (dgl (d) 5 : Nat), .int .u64 (dgl (d) 6 : Nat), .int .u64 (dgl (d) 7 : Nat)]] w fun e w' => e = .returned (.int .i64 0) ∧ Below w.heap.size w w'))
    (HNO : Hid (∀ w, Calls Tryd.prog 15 #[.agg #[.int .u64 (dgl (d) 0 : Nat), .int .u64 (dgl (d) 1 : Nat), .int .u64 (dgl (d) 2 : Nat), .int .u64 (dgl (d) 3 : Nat), .int .u64 (dgl (d) 4 : Nat), .int .u64 (dgl (d) 5 : Nat), .int .u64 (dgl (d) 6 : Nat), .int .u64 (dgl (d) 7 : Nat)]] w fun e w' => e = .returned (.tuple #[.agg #[.int .u64 (dgl (D) 0 : Nat), .int .u64 (dgl (D) 1 : Nat), .int .u64 (dgl (D) 2 : Nat), .int .u64 (dgl (D) 3 : Nat), .int .u64 (dgl (D) 4 : Nat), .int .u64 (dgl (D) 5 : Nat), .int .u64 (dgl (D) 6 : Nat), .int .u64 (dgl (D) 7 : Nat)], .int .i64 b, .bool true]) ∧ Below w.heap.size w w'))
    (HSH : Hid (∀ w, Calls Tryd.prog 29 #[.agg #[.int .u64 (dgl (n) 0 : Nat), .int .u64 (dgl (n) 1 : Nat), .int .u64 (dgl (n) 2 : Nat), .int .u64 (dgl (n) 3 : Nat), .int .u64 (dgl (n) 4 : Nat), .int .u64 (dgl (n) 5 : Nat), .int .u64 (dgl (n) 6 : Nat), .int .u64 (dgl (n) 7 : Nat)], .int .i64 b] w fun e w' => e = .returned (.agg #[.int .u64 (dgl (X) 0 : Nat), .int .u64 (dgl (X) 1 : Nat), .int .u64 (dgl (X) 2 : Nat), .int .u64 (dgl (X) 3 : Nat), .int .u64 (dgl (X) 4 : Nat), .int .u64 (dgl (X) 5 : Nat), .int .u64 (dgl (X) 6 : Nat), .int .u64 (dgl (X) 7 : Nat)]) ∧ Below w.heap.size w w'))
    (HWK : Hid (∀ w, TabG w → Calls Tryd.prog 28 #[.agg #[.int .u64 (dgl (X) 0 : Nat), .int .u64 (dgl (X) 1 : Nat), .int .u64 (dgl (X) 2 : Nat), .int .u64 (dgl (X) 3 : Nat), .int .u64 (dgl (X) 4 : Nat), .int .u64 (dgl (X) 5 : Nat), .int .u64 (dgl (X) 6 : Nat), .int .u64 (dgl (X) 7 : Nat)], .agg #[.int .u64 (dgl (D) 0 : Nat), .int .u64 (dgl (D) 1 : Nat), .int .u64 (dgl (D) 2 : Nat), .int .u64 (dgl (D) 3 : Nat), .int .u64 (dgl (D) 4 : Nat), .int .u64 (dgl (D) 5 : Nat), .int .u64 (dgl (D) 6 : Nat), .int .u64 (dgl (D) 7 : Nat)], .int .i64 (steps : Nat), .func (.func 42) #[] #[]] w fun e w' => e = .returned (.agg #[.int .u64 (dgl (r) 0 : Nat), .int .u64 (dgl (r) 1 : Nat), .int .u64 (dgl (r) 2 : Nat), .int .u64 (dgl (r) 3 : Nat), .int .u64 (dgl (r) 4 : Nat), .int .u64 (dgl (r) 5 : Nat), .int .u64 (dgl (r) 6 : Nat), .int .u64 (dgl (r) 7 : Nat)]) ∧ Below w.heap.size w w'))
    (HMI : Hid (∀ w, Calls Tryd.prog 32 #[.agg #[.int .u64 (dgl (r) 0 : Nat), .int .u64 (dgl (r) 1 : Nat), .int .u64 (dgl (r) 2 : Nat), .int .u64 (dgl (r) 3 : Nat), .int .u64 (dgl (r) 4 : Nat), .int .u64 (dgl (r) 5 : Nat), .int .u64 (dgl (r) 6 : Nat), .int .u64 (dgl (r) 7 : Nat)]] w fun e w' => e = .returned (.bool true) ∧ Below w.heap.size w w'))
    (HNG : Hid (∀ w, Calls Tryd.prog 43 #[.agg #[.int .u64 (dgl (r) 0 : Nat), .int .u64 (dgl (r) 1 : Nat), .int .u64 (dgl (r) 2 : Nat), .int .u64 (dgl (r) 3 : Nat), .int .u64 (dgl (r) 4 : Nat), .int .u64 (dgl (r) 5 : Nat), .int .u64 (dgl (r) 6 : Nat), .int .u64 (dgl (r) 7 : Nat)]] w fun e w' => e = .returned (.agg #[.int .u64 (dgl (r2) 0 : Nat), .int .u64 (dgl (r2) 1 : Nat), .int .u64 (dgl (r2) 2 : Nat), .int .u64 (dgl (r2) 3 : Nat), .int .u64 (dgl (r2) 4 : Nat), .int .u64 (dgl (r2) 5 : Nat), .int .u64 (dgl (r2) 6 : Nat), .int .u64 (dgl (r2) 7 : Nat)]) ∧ Below w.heap.size w w')) (w : World) (hg : TabG w) :
    Calls Tryd.prog 14 #[.agg #[.int .u64 (dgl (n) 0 : Nat), .int .u64 (dgl (n) 1 : Nat), .int .u64 (dgl (n) 2 : Nat), .int .u64 (dgl (n) 3 : Nat), .int .u64 (dgl (n) 4 : Nat), .int .u64 (dgl (n) 5 : Nat), .int .u64 (dgl (n) 6 : Nat), .int .u64 (dgl (n) 7 : Nat)], .agg #[.int .u64 (dgl (d) 0 : Nat), .int .u64 (dgl (d) 1 : Nat), .int .u64 (dgl (d) 2 : Nat), .int .u64 (dgl (d) 3 : Nat), .int .u64 (dgl (d) 4 : Nat), .int .u64 (dgl (d) 5 : Nat), .int .u64 (dgl (d) 6 : Nat), .int .u64 (dgl (d) 7 : Nat)], .int .i64 (steps : Nat)] w fun e w' => e = .returned (.tuple #[.agg #[.int .u64 (dgl (r2) 0 : Nat), .int .u64 (dgl (r2) 1 : Nat), .int .u64 (dgl (r2) 2 : Nat), .int .u64 (dgl (r2) 3 : Nat), .int .u64 (dgl (r2) 4 : Nat), .int .u64 (dgl (r2) 5 : Nat), .int .u64 (dgl (r2) 6 : Nat), .int .u64 (dgl (r2) 7 : Nat)], .bool true, .int .i64 0]) ∧ Below w.heap.size w w' := by
  have HS := hide (lf3_start n d w 24 24 24)
  have HG := hide hg
  have h0 : ¬ (steps : Int) < 0 := by omega
  have h1 : ¬ 65 < (steps : Int) := by omega
  clear hg
  go_enter Tryd.func14, Tryd.ntmps14
  go_upto_region 1 with fail
  refine wp_gen (fun W => Lf3 n d w W) ?_ ?_
  · exact HS.out
  clear HS
  rintro W1 g1
  have HS := hide g1
  have hl1 := g1.t.la.1
  have hl2 := g1.t.lb.1
  clear g1
  go_wp2_with fail
  refine (HM.out _).mono ?_
  rintro e w2 ⟨rfl, hb2⟩
  replace HS := hide (HS.out.below hb2)
  clear hb2 hl1 hl2 HM
  have hl2 := HS.out.t.lb.1
  go_wp2_with fail
  refine (HNO.out _).mono ?_
  rintro e w3 ⟨rfl, hb3⟩
  replace HS := hide (HS.out.below hb3)
  clear hb3 hl2 HNO
  have HP10 := hide HS.out.lr.2
  go_upto_region 7 with fail
  refine wp_gen (fun W => Lf3 n d w W ∧ LiesF W w3.heap.size (dgl D) ∧ TabG W) ⟨HS.out.below (below_allocs _ _), liesF_new w3 (dgl D) _, HG.out.below (below_trans HS.out.bel (below_allocs _ _))⟩ ?_
  clear HS HG
  generalize w3.heap.size = p10 at *
  rintro W7 h7
  have HS := hide h7
  clear h7
  refine wp_region_grow 7 [(34, .val (.agg #[.int .u64 (dgl (n) 0 : Nat), .int .u64 (dgl (n) 1 : Nat), .int .u64 (dgl (n) 2 : Nat), .int .u64 (dgl (n) 3 : Nat), .int .u64 (dgl (n) 4 : Nat), .int .u64 (dgl (n) 5 : Nat), .int .u64 (dgl (n) 6 : Nat), .int .u64 (dgl (n) 7 : Nat)])), (35, .val (.int .i64 b)), (36, .val (.agg #[.int .u64 (dgl (X) 0 : Nat), .int .u64 (dgl (X) 1 : Nat), .int .u64 (dgl (X) 2 : Nat), .int .u64 (dgl (X) 3 : Nat), .int .u64 (dgl (X) 4 : Nat), .int .u64 (dgl (X) 5 : Nat), .int .u64 (dgl (X) 6 : Nat), .int .u64 (dgl (X) 7 : Nat)])), (37, .val (.agg #[.int .u64 (dgl (D) 0 : Nat), .int .u64 (dgl (D) 1 : Nat), .int .u64 (dgl (D) 2 : Nat), .int .u64 (dgl (D) 3 : Nat), .int .u64 (dgl (D) 4 : Nat), .int .u64 (dgl (D) 5 : Nat), .int .u64 (dgl (D) 6 : Nat), .int .u64 (dgl (D) 7 : Nat)])), (38, .val (.int .i64 (steps : Nat))), (39, .val (.agg #[.int .u64 (dgl (r) 0 : Nat), .int .u64 (dgl (r) 1 : Nat), .int .u64 (dgl (r) 2 : Nat), .int .u64 (dgl (r) 3 : Nat), .int .u64 (dgl (r) 4 : Nat), .int .u64 (dgl (r) 5 : Nat), .int .u64 (dgl (r) 6 : Nat), .int .u64 (dgl (r) 7 : Nat)])), (13, .box p10 (fun _ => 0))]
    (fun W => Lf3 n d w W ∧ LiesF W p10 (dgl D) ∧ TabG W) mixedOk (by kernel_rfl) (by kernel_rfl) (⟨HS.out.1.below (Below.refl _ _).drew, HS.out.2.1.below (Below.refl _ _).drew, HS.out.2.2.below (Below.refl _ _).drew⟩) (fun W W' h hb => ⟨h.1.below hb, h.2.1.below hb, h.2.2.below hb⟩) ?_ ?_
  · refine gSt (gStep_run rfl ?_) ?_
    · intro ρ W hC hc hf hL
      have e3 : ρ (.tmp 3) = .pointer (some ⟨w.heap.size, 0, none⟩) := hL 3 (by decide +kernel)
      have hl := hC.1.t.la.1
      simp [go_sem, hc, hf, e3, hl]
      exact ⟨Below.refl _ _, rfl⟩
    refine gSt (gStep_run rfl (gRun_move 11 35 (.inl rfl) rfl (by decide +kernel) (fun v w h => h))) ?_
    refine gSt (gStep_run rfl ?_) ?_
    · intro ρ W hC hc hf hL
      have e34 : ρ (.tmp 34) = .agg #[.int .u64 (dgl (n) 0 : Nat), .int .u64 (dgl (n) 1 : Nat), .int .u64 (dgl (n) 2 : Nat), .int .u64 (dgl (n) 3 : Nat), .int .u64 (dgl (n) 4 : Nat), .int .u64 (dgl (n) 5 : Nat), .int .u64 (dgl (n) 6 : Nat), .int .u64 (dgl (n) 7 : Nat)] := hL 34 (by decide +kernel)
      have e35 : ρ (.tmp 35) = .int .i64 b := hL 35 (by decide +kernel)
      simp [go_sem, hc, hf, e34, e35]
      refine (HSH.out W).mono ?_
      rintro e w' ⟨rfl, hb⟩
      exact ⟨_, rfl, by first | exact hb | (subst hb; exact Below.refl _ _), rfl⟩
    refine gSt (gStep_run rfl ?_) ?_
    · intro ρ W hC hc hf hL
      have e10 : ρ (.tmp 10) = .pointer (some ⟨p10, 0, none⟩) := hL 10 (by decide +kernel)
      have hl := hC.2.1.1
      simp [go_sem, hc, hf, e10, hl]
      exact ⟨Below.refl _ _, rfl⟩
    refine gSt (gStep_run rfl (gRun_move 2 38 (.inl rfl) rfl (by decide +kernel) (fun v w h => h))) ?_
    refine gSt (gStep_run rfl ?_) ?_
    · intro ρ W hC hc hf hL
      have e36 : ρ (.tmp 36) = .agg #[.int .u64 (dgl (X) 0 : Nat), .int .u64 (dgl (X) 1 : Nat), .int .u64 (dgl (X) 2 : Nat), .int .u64 (dgl (X) 3 : Nat), .int .u64 (dgl (X) 4 : Nat), .int .u64 (dgl (X) 5 : Nat), .int .u64 (dgl (X) 6 : Nat), .int .u64 (dgl (X) 7 : Nat)] := hL 36 (by decide +kernel)
      have e37 : ρ (.tmp 37) = .agg #[.int .u64 (dgl (D) 0 : Nat), .int .u64 (dgl (D) 1 : Nat), .int .u64 (dgl (D) 2 : Nat), .int .u64 (dgl (D) 3 : Nat), .int .u64 (dgl (D) 4 : Nat), .int .u64 (dgl (D) 5 : Nat), .int .u64 (dgl (D) 6 : Nat), .int .u64 (dgl (D) 7 : Nat)] := hL 37 (by decide +kernel)
      have e38 : ρ (.tmp 38) = .int .i64 (steps : Nat) := hL 38 (by decide +kernel)
      simp [go_sem, hc, hf, e36, e37, e38]
      refine (HWK.out W hC.2.2).mono ?_
      rintro e w' ⟨rfl, hb⟩
      exact ⟨_, rfl, by first | exact hb | (subst hb; exact Below.refl _ _), rfl⟩
    refine gSt (gStep_run rfl ?_) ?_
    · intro ρ W hC hc hf hL
      simp [go_sem, hc, hf]
      exact ⟨below_allocs _ _, _, rfl, Nat.le_of_lt hC.2.1.2, liesF_new _ (fun _ => 0) _, fun i => by simp [go_sem]⟩
    exact gSt0
  · intro W hC
    refine gFi 34 rfl ?_
    rintro _ rfl
    refine gFi 35 rfl ?_
    rintro _ rfl
    refine gFi 36 rfl ?_
    rintro _ rfl
    refine gFi 37 rfl ?_
    rintro _ rfl
    refine gFi 38 rfl ?_
    rintro _ rfl
    refine gFi 39 rfl ?_
    rintro _ rfl
    refine gFi 13 rfl ?_
    rintro _ ⟨p13, rfl, q13, l13, z13⟩
    refine gFi0 ?_
    simp only [List.drop_succ_cons, List.drop_zero, Act.put, List.setIfInBounds_toArray, List.set_cons_succ, List.set_cons_zero]
    have HS2 := hide (show Lf3 n d w W ∧ LiesF W p13 (fun _ => 0) ∧ (∀ i, W.frozen? ⟨p13, i, none⟩ = false) from ⟨hC.1, l13, z13⟩)
    have h13 := l13.1
    have hl13 := l13.2
    have hf13 := z13
    clear hC HS l13 z13
    have hgt : w.heap.size + 2 < p13 := by have := HP10.out; omega
    go_upto_region 8 with fail
    refine wp_gen (fun V => Lf3 n d w V ∧ LiesF V p13 (dgl r)) ⟨HS2.out.1.under (below_set8 (Below.refl p13 W) p13 (Nat.le_refl _) _ _ _ _ _ _ _ _) hgt, set8_same W p13 (dgl r) (fun _ => 0) HS2.out.2.1⟩ ?_
    clear HS2 h13 hl13 hf13
    rintro W8 h8
    have HS := hide h8
    have hl := h8.2.1
    clear h8
    go_wp2_with fail
    refine (HMI.out _).mono ?_
    rintro e w8 ⟨rfl, hb8⟩
    replace HS := hide (show Lf3 n d w w8 ∧ LiesF w8 p13 (dgl r) from ⟨HS.out.1.below hb8, HS.out.2.below hb8⟩)
    clear hb8 hl HMI
    have hl13 := HS.out.2.1
    go_wp2_with fail
    refine (HNG.out _).mono ?_
    rintro e w9 ⟨rfl, hb9⟩
    replace HS := hide (show Lf3 n d w w9 ∧ LiesF w9 p13 (dgl r) from ⟨HS.out.1.below hb9, HS.out.2.below hb9⟩)
    clear hb9 hl13
    have hr1 := HS.out.1.lr.1
    have hrl1 := HS.out.1.lr.2
    have hrf1 := HS.out.1.fr
    have HBE := hide HS.out.1.bel
    clear HS
    go_wp2
    exact bodyPost_ret (v := .tuple #[.agg #[.int .u64 (dgl (r2) 0 : Nat), .int .u64 (dgl (r2) 1 : Nat), .int .u64 (dgl (r2) 2 : Nat), .int .u64 (dgl (r2) 3 : Nat), .int .u64 (dgl (r2) 4 : Nat), .int .u64 (dgl (r2) 5 : Nat), .int .u64 (dgl (r2) 6 : Nat), .int .u64 (dgl (r2) 7 : Nat)], .bool true, .int .i64 0]) (by simp [results, Tryd.results14, go_sem, hr1, hrl1]) rfl ⟨rfl, below_set8 HBE.out _ (by omega) _ _ _ _ _ _ _ _⟩
    

/-- Left: what is left behind so many steps, without its sign, and its sign. -/
theorem leftA_ok (n d steps : Nat) (hn : n < QQ) (hd : d < QQ) (hm : mayN n d = 0) (hst : steps ≤ 65) (w : World) (hg : TabG w) :
    Calls Tryd.prog 14 #[.agg #[.int .u64 (dgl (n) 0 : Nat), .int .u64 (dgl (n) 1 : Nat), .int .u64 (dgl (n) 2 : Nat), .int .u64 (dgl (n) 3 : Nat), .int .u64 (dgl (n) 4 : Nat), .int .u64 (dgl (n) 5 : Nat), .int .u64 (dgl (n) 6 : Nat), .int .u64 (dgl (n) 7 : Nat)], .agg #[.int .u64 (dgl (d) 0 : Nat), .int .u64 (dgl (d) 1 : Nat), .int .u64 (dgl (d) 2 : Nat), .int .u64 (dgl (d) 3 : Nat), .int .u64 (dgl (d) 4 : Nat), .int .u64 (dgl (d) 5 : Nat), .int .u64 (dgl (d) 6 : Nat), .int .u64 (dgl (d) 7 : Nat)], .int .i64 (steps : Nat)] w fun e w' => e = .returned (.tuple #[.agg #[.int .u64 (dgl ((lf15 n d steps).natAbs) 0 : Nat), .int .u64 (dgl ((lf15 n d steps).natAbs) 1 : Nat), .int .u64 (dgl ((lf15 n d steps).natAbs) 2 : Nat), .int .u64 (dgl ((lf15 n d steps).natAbs) 3 : Nat), .int .u64 (dgl ((lf15 n d steps).natAbs) 4 : Nat), .int .u64 (dgl ((lf15 n d steps).natAbs) 5 : Nat), .int .u64 (dgl ((lf15 n d steps).natAbs) 6 : Nat), .int .u64 (dgl ((lf15 n d steps).natAbs) 7 : Nat)], .bool (decide (lf15 n d steps < 0)), .int .i64 0]) ∧ Below w.heap.size w w' := by
  have hz := mayN_zero hm
  have hL : Go.bitLen d ≤ 120 := bitLen_le d 120 hz.2.1
  have h0 : d ≠ 0 := by omega
  have hl0 := (bitLen_top d h0).2.2
  have ok := ok15 n d h0 (by omega) hz.2.2
  have hw := ok.wide steps hst
  have HM := hide (fun w => may_any n d hn hd w)
  rw [hm] at HM
  have HNO := hide (fun w => normA_yes d hd hl0 hL w)
  have HSH := hide (fun w => wideShl_any n ((128 - Go.bitLen d : Nat) : Int) hn w)
  rw [show roomI ((128 - Go.bitLen d : Nat) : Int) = ((128 - Go.bitLen d : Nat) : Int) by unfold roomI; omega, sh_up] at HSH
  have HWK := hide (fun w hg => walkA_idle n d h0 (by omega) ok steps w hst hg)
  have HMI := hide (fun w => wideMinus_any (qz (lf15 n d steps)) (qz_lt _) w)
  rw [qz_bit _ hw.1 hw.2] at HMI
  have hq2 : ((2 ^ 511 : Nat) : Int) < (QQ : Int) := by decide +kernel
  by_cases hlt : lf15 n d steps < 0
  · rw [decide_eq_true hlt] at HMI ⊢
    have HNG := hide (fun w => wideNeg_any (qz (lf15 n d steps)) (qz_lt _) w)
    have e : qz (-(lf15 n d steps)) = (lf15 n d steps).natAbs := by
      rw [show -(lf15 n d steps) = (((lf15 n d steps).natAbs : Nat) : Int) by omega]
      exact qz_nat (by omega)
    rw [qz_neg, e] at HNG
    exact leftA_walkN n d _ _ _ _ steps _ hst HM HNO HSH HWK HMI HNG w hg
  · rw [decide_eq_false hlt] at HMI ⊢
    have e : qz (lf15 n d steps) = (lf15 n d steps).natAbs := by
      rw [show lf15 n d steps = (((lf15 n d steps).natAbs : Nat) : Int) by omega]
      exact qz_nat (by omega)
    rw [e] at HWK HMI
    exact leftA_walkP n d _ _ _ 0 steps _ hst HM HNO HSH HWK HMI w hg
end Go.Proofs.YtbngaajhdaciaaaDoor

/- Contracts: srt.Digits. -/
set_option linter.unusedVariables false
set_option linter.unusedSimpArgs false
set_option maxRecDepth 8000
namespace Go.Proofs.YtbngaajhdaciaaaDoor
open Go.RowKit Plain

set_option maxHeartbeats 2000000 in
theorem digA_E (n d : Nat) (ez : Int) (he : (ez == 0) = false) (HM : Hid (∀ w, Calls Tryd.prog 21 #[.agg #[.int .u64 (dgl (n) 0 : Nat), .int .u64 (dgl (n) 1 : Nat), .int .u64 (dgl (n) 2 : Nat), .int .u64 (dgl (n) 3 : Nat), .int .u64 (dgl (n) 4 : Nat), .int .u64 (dgl (n) 5 : Nat), .int .u64 (dgl (n) 6 : Nat), .int .u64 (dgl (n) 7 : Nat)], .agg #[.int .u64 (dgl (d) 0 : Nat), .int .u64 (dgl (d) 1 : Nat), .int .u64 (dgl (d) 2 : Nat), .int .u64 (dgl (d) 3 : Nat), .int .u64 (dgl (d) 4 : Nat), .int .u64 (dgl (d) 5 : Nat), .int .u64 (dgl (d) 6 : Nat), .int .u64 (dgl (d) 7 : Nat)]] w fun e w' => e = .returned (.int .i64 ez) ∧ Below w.heap.size w w')) (w : World) :
    Calls Tryd.prog 10 #[.agg #[.int .u64 (dgl (n) 0 : Nat), .int .u64 (dgl (n) 1 : Nat), .int .u64 (dgl (n) 2 : Nat), .int .u64 (dgl (n) 3 : Nat), .int .u64 (dgl (n) 4 : Nat), .int .u64 (dgl (n) 5 : Nat), .int .u64 (dgl (n) 6 : Nat), .int .u64 (dgl (n) 7 : Nat)], .agg #[.int .u64 (dgl (d) 0 : Nat), .int .u64 (dgl (d) 1 : Nat), .int .u64 (dgl (d) 2 : Nat), .int .u64 (dgl (d) 3 : Nat), .int .u64 (dgl (d) 4 : Nat), .int .u64 (dgl (d) 5 : Nat), .int .u64 (dgl (d) 6 : Nat), .int .u64 (dgl (d) 7 : Nat)]] w fun e' w' => e' = .returned (.tuple #[.slice none 0 0, .int .i64 ez]) ∧ Below w.heap.size w w' := by
  have HS := hide (twSt_start n d w 24 24)
  go_enter Tryd.func10, Tryd.ntmps10
  have hca := HS.out.la.1
  have hcb := HS.out.lb.1
  go_wp2_with fail
  refine (HM.out _).mono ?_
  rintro e' w1 ⟨rfl, hb1⟩
  replace HS := hide (HS.out.below hb1)
  clear hb1 hca hcb
  have HBE := hide HS.out.bel
  clear HS
  go_wp2
  exact bodyPost_ret (v := .tuple #[.slice none 0 0, .int .i64 ez]) (by simp [results, Tryd.results10, go_sem]) rfl ⟨rfl, HBE.out⟩

set_option maxHeartbeats 4000000 in
theorem digA_Y (n d D X : Nat) (b : Int) (L : List Nat) (HM : Hid (∀ w, Calls Tryd.prog 21 #[.agg #[.int .u64 (dgl (n) 0 : Nat), .int .u64 (dgl (n) 1 : Nat), .int .u64 (dgl (n) 2 : Nat), .int .u64 (dgl (n) 3 : Nat), .int .u64 (dgl (n) 4 : Nat), .int .u64 (dgl (n) 5 : Nat), .int .u64 (dgl (n) 6 : Nat), .int .u64 (dgl (n) 7 : Nat)], .agg #[.int .u64 (dgl (d) 0 : Nat), .int .u64 (dgl (d) 1 : Nat), .int .u64 (dgl (d) 2 : Nat), .int .u64 (dgl (d) 3 : Nat), .int .u64 (dgl (d) 4 : Nat), .int .u64 (dgl (d) 5 : Nat), .int .u64 (dgl (d) 6 : Nat), .int .u64 (dgl (d) 7 : Nat)]] w fun e w' => e = .returned (.int .i64 0) ∧ Below w.heap.size w w'))
    (HNO : Hid (∀ w, Calls Tryd.prog 15 #[.agg #[.int .u64 (dgl (d) 0 : Nat), .int .u64 (dgl (d) 1 : Nat), .int .u64 (dgl (d) 2 : Nat), .int .u64 (dgl (d) 3 : Nat), .int .u64 (dgl (d) 4 : Nat), .int .u64 (dgl (d) 5 : Nat), .int .u64 (dgl (d) 6 : Nat), .int .u64 (dgl (d) 7 : Nat)]] w fun e w' => e = .returned (.tuple #[.agg #[.int .u64 (dgl (D) 0 : Nat), .int .u64 (dgl (D) 1 : Nat), .int .u64 (dgl (D) 2 : Nat), .int .u64 (dgl (D) 3 : Nat), .int .u64 (dgl (D) 4 : Nat), .int .u64 (dgl (D) 5 : Nat), .int .u64 (dgl (D) 6 : Nat), .int .u64 (dgl (D) 7 : Nat)], .int .i64 b, .bool true]) ∧ Below w.heap.size w w'))
    (HSH : Hid (∀ w, Calls Tryd.prog 29 #[.agg #[.int .u64 (dgl (n) 0 : Nat), .int .u64 (dgl (n) 1 : Nat), .int .u64 (dgl (n) 2 : Nat), .int .u64 (dgl (n) 3 : Nat), .int .u64 (dgl (n) 4 : Nat), .int .u64 (dgl (n) 5 : Nat), .int .u64 (dgl (n) 6 : Nat), .int .u64 (dgl (n) 7 : Nat)], .int .i64 b] w fun e w' => e = .returned (.agg #[.int .u64 (dgl (X) 0 : Nat), .int .u64 (dgl (X) 1 : Nat), .int .u64 (dgl (X) 2 : Nat), .int .u64 (dgl (X) 3 : Nat), .int .u64 (dgl (X) 4 : Nat), .int .u64 (dgl (X) 5 : Nat), .int .u64 (dgl (X) 6 : Nat), .int .u64 (dgl (X) 7 : Nat)]) ∧ Below w.heap.size w w')) (w : World)
    (HWK : Hid (∀ p10 W, W.cell? ⟨p10, 0, none⟩ = some (.slice none 0 0) → W.frozen? ⟨p10, 0, none⟩ = false → p10 < W.heap.size → w.heap.size ≤ p10 → Below w.heap.size w W → Calls Tryd.prog 28 #[.agg #[.int .u64 (dgl (X) 0 : Nat), .int .u64 (dgl (X) 1 : Nat), .int .u64 (dgl (X) 2 : Nat), .int .u64 (dgl (X) 3 : Nat), .int .u64 (dgl (X) 4 : Nat), .int .u64 (dgl (X) 5 : Nat), .int .u64 (dgl (X) 6 : Nat), .int .u64 (dgl (X) 7 : Nat)], .agg #[.int .u64 (dgl (D) 0 : Nat), .int .u64 (dgl (D) 1 : Nat), .int .u64 (dgl (D) 2 : Nat), .int .u64 (dgl (D) 3 : Nat), .int .u64 (dgl (D) 4 : Nat), .int .u64 (dgl (D) 5 : Nat), .int .u64 (dgl (D) 6 : Nat), .int .u64 (dgl (D) 7 : Nat)], .int .i64 65, .func (.func 36) #[] #[.pointer (some ⟨p10, 0, none⟩)]] W fun e w' => ∃ r v, e = .returned r ∧ w'.cell? ⟨p10, 0, none⟩ = some v ∧ Rd mkZ w' v L ∧ Below w.heap.size w w')) :
    Calls Tryd.prog 10 #[.agg #[.int .u64 (dgl (n) 0 : Nat), .int .u64 (dgl (n) 1 : Nat), .int .u64 (dgl (n) 2 : Nat), .int .u64 (dgl (n) 3 : Nat), .int .u64 (dgl (n) 4 : Nat), .int .u64 (dgl (n) 5 : Nat), .int .u64 (dgl (n) 6 : Nat), .int .u64 (dgl (n) 7 : Nat)], .agg #[.int .u64 (dgl (d) 0 : Nat), .int .u64 (dgl (d) 1 : Nat), .int .u64 (dgl (d) 2 : Nat), .int .u64 (dgl (d) 3 : Nat), .int .u64 (dgl (d) 4 : Nat), .int .u64 (dgl (d) 5 : Nat), .int .u64 (dgl (d) 6 : Nat), .int .u64 (dgl (d) 7 : Nat)]] w fun e' w' => ∃ v, e' = .returned (.tuple #[v, .int .i64 0]) ∧ Rd mkZ w' v L ∧ Below w.heap.size w w' := by
  have HS := hide (twSt_start n d w 24 24)
  go_enter Tryd.func10, Tryd.ntmps10
  have hca := HS.out.la.1
  have hcb := HS.out.lb.1
  go_wp2_with fail
  refine (HM.out _).mono ?_
  rintro e' w1 ⟨rfl, hb1⟩
  replace HS := hide (HS.out.below hb1)
  clear hb1 hca hcb HM
  have hcb := HS.out.lb.1
  go_wp2_with fail
  refine (HNO.out _).mono ?_
  rintro e w3 ⟨rfl, hb3⟩
  replace HS := hide (HS.out.below hb3)
  clear hb3 hcb HNO
  have HP := hide HS.out.bel.size
  go_upto_region 6 with fail
  have hbw := below_trans (below_allocs w3 (.cells #[.int .u64 (dgl (D) 0 : Nat), .int .u64 (dgl (D) 1 : Nat), .int .u64 (dgl (D) 2 : Nat), .int .u64 (dgl (D) 3 : Nat), .int .u64 (dgl (D) 4 : Nat), .int .u64 (dgl (D) 5 : Nat), .int .u64 (dgl (D) 6 : Nat), .int .u64 (dgl (D) 7 : Nat)] 24)) (below_allocs _ (.cells #[.slice none 0 0] 31))
  refine wp_gen (fun W => TwSt n d w W ∧ LiesF W w3.heap.size (dgl D) ∧ W.cell? ⟨w3.heap.size + 1, 0, none⟩ = some (.slice none 0 0) ∧ W.frozen? ⟨w3.heap.size + 1, 0, none⟩ = false ∧ w3.heap.size + 1 < W.heap.size) ⟨HS.out.below hbw, (liesF_new w3 (dgl D) _).alloc _, by simp [go_sem], by simp [go_sem], by simp⟩ ?_
  clear HS hbw
  have HP10 := hide (show w.heap.size ≤ w3.heap.size + 1 from Nat.le_succ_of_le HP.out)
  obtain ⟨p10, hp10⟩ : ∃ p10, w3.heap.size + 1 = p10 := ⟨_, rfl⟩
  rw [hp10] at HP10 ⊢
  clear hp10 HP
  generalize w3.heap.size = p7 at *
  rintro W6 h6
  have HS := hide h6
  clear h6
  have hup : ∀ {V V' : World}, Below V.heap.size V V' → (TwSt n d w V ∧ LiesF V p7 (dgl D) ∧ V.cell? ⟨p10, 0, none⟩ = some (.slice none 0 0) ∧ V.frozen? ⟨p10, 0, none⟩ = false ∧ p10 < V.heap.size) → (TwSt n d w V' ∧ LiesF V' p7 (dgl D) ∧ V'.cell? ⟨p10, 0, none⟩ = some (.slice none 0 0) ∧ V'.frozen? ⟨p10, 0, none⟩ = false ∧ p10 < V'.heap.size) := fun hb h => ⟨h.1.below hb, h.2.1.below hb, (hb.cell (p := ⟨p10, 0, none⟩) h.2.2.2.2).trans h.2.2.1, (hb.frozen (p := ⟨p10, 0, none⟩) h.2.2.2.2).trans h.2.2.2.1, Nat.lt_of_lt_of_le h.2.2.2.2 hb.size⟩
  refine wp_region_grow 5 [(23, .val (.agg #[.int .u64 (dgl (n) 0 : Nat), .int .u64 (dgl (n) 1 : Nat), .int .u64 (dgl (n) 2 : Nat), .int .u64 (dgl (n) 3 : Nat), .int .u64 (dgl (n) 4 : Nat), .int .u64 (dgl (n) 5 : Nat), .int .u64 (dgl (n) 6 : Nat), .int .u64 (dgl (n) 7 : Nat)])), (24, .val (.int .i64 b)), (25, .val (.agg #[.int .u64 (dgl (X) 0 : Nat), .int .u64 (dgl (X) 1 : Nat), .int .u64 (dgl (X) 2 : Nat), .int .u64 (dgl (X) 3 : Nat), .int .u64 (dgl (X) 4 : Nat), .int .u64 (dgl (X) 5 : Nat), .int .u64 (dgl (X) 6 : Nat), .int .u64 (dgl (X) 7 : Nat)])), (26, .val (.agg #[.int .u64 (dgl (D) 0 : Nat), .int .u64 (dgl (D) 1 : Nat), .int .u64 (dgl (D) 2 : Nat), .int .u64 (dgl (D) 3 : Nat), .int .u64 (dgl (D) 4 : Nat), .int .u64 (dgl (D) 5 : Nat), .int .u64 (dgl (D) 6 : Nat), .int .u64 (dgl (D) 7 : Nat)])), (27, .val (.func (.func 36) #[] #[.pointer (some ⟨p10, 0, none⟩)]))]
    (fun W => TwSt n d w W ∧ LiesF W p7 (dgl D) ∧ W.cell? ⟨p10, 0, none⟩ = some (.slice none 0 0) ∧ W.frozen? ⟨p10, 0, none⟩ = false ∧ p10 < W.heap.size) mixedOk (by kernel_rfl) (by kernel_rfl) (hup (Below.refl _ _).drew HS.out) (fun W W' h hb => hup hb h) ?_ ?_
  · refine gSt (gStep_run rfl ?_) ?_
    · intro ρ W hC hc hf hL
      have e2 : ρ (.tmp 2) = .pointer (some ⟨w.heap.size, 0, none⟩) := hL 2 (by decide +kernel)
      have hl := hC.1.la.1
      simp [go_sem, hc, hf, e2, hl]
      exact ⟨Below.refl _ _, rfl⟩
    refine gSt (gStep_run rfl (gRun_move 8 24 (.inl rfl) rfl (by decide +kernel) (fun v w h => h))) ?_
    refine gSt (gStep_run rfl ?_) ?_
    · intro ρ W hC hc hf hL
      have e23 : ρ (.tmp 23) = .agg #[.int .u64 (dgl (n) 0 : Nat), .int .u64 (dgl (n) 1 : Nat), .int .u64 (dgl (n) 2 : Nat), .int .u64 (dgl (n) 3 : Nat), .int .u64 (dgl (n) 4 : Nat), .int .u64 (dgl (n) 5 : Nat), .int .u64 (dgl (n) 6 : Nat), .int .u64 (dgl (n) 7 : Nat)] := hL 23 (by decide +kernel)
      have e24 : ρ (.tmp 24) = .int .i64 b := hL 24 (by decide +kernel)
      simp [go_sem, hc, hf, e23, e24]
      refine (HSH.out W).mono ?_
      rintro e w' ⟨rfl, hb⟩
      exact ⟨_, rfl, by first | exact hb | (subst hb; exact Below.refl _ _), rfl⟩
    refine gSt (gStep_run rfl ?_) ?_
    · intro ρ W hC hc hf hL
      have e7 : ρ (.tmp 7) = .pointer (some ⟨p7, 0, none⟩) := hL 7 (by decide +kernel)
      have hl := hC.2.1.1
      simp [go_sem, hc, hf, e7, hl]
      exact ⟨Below.refl _ _, rfl⟩
    refine gSt (gStep_run rfl ?_) ?_
    · intro ρ W hC hc hf hL
      have e10 : ρ (.tmp 10) = .pointer (some ⟨p10, 0, none⟩) := hL 10 (by decide +kernel)
      simp [go_sem, hc, hf, e10]
      exact ⟨Below.refl _ _, rfl⟩
    exact gSt0
  · intro W hC
    refine gFi 23 rfl ?_
    rintro _ rfl
    refine gFi 24 rfl ?_
    rintro _ rfl
    refine gFi 25 rfl ?_
    rintro _ rfl
    refine gFi 26 rfl ?_
    rintro _ rfl
    refine gFi 27 rfl ?_
    rintro _ rfl
    refine gFi0 ?_
    simp only [List.drop_succ_cons, List.drop_zero, Act.put, List.setIfInBounds_toArray, List.set_cons_succ, List.set_cons_zero]
    have HWL := hide (HWK.out p10 W hC.2.2.1 hC.2.2.2.1 hC.2.2.2.2 HP10.out hC.1.bel)
    clear HS hC HWK
    go_wp2_with fail
    refine (HWL.out).mono ?_
    rintro e w6 ⟨r, v, rfl, hcv, hrd, hb6⟩
    have HR := hide hrd
    have HBE := hide hb6
    clear hrd hb6 HWL
    go_wp2
    exact bodyPost_ret (v := .tuple #[v, .int .i64 0]) (by simp [results, Tryd.results10, go_sem]) rfl ⟨_, rfl, HR.out, HBE.out⟩
    

theorem digA_err (n d : Nat) (hn : n < QQ) (hd : d < QQ) (hm : mayN n d ≠ 0) (w : World) :
    Calls Tryd.prog 10 #[.agg #[.int .u64 (dgl (n) 0 : Nat), .int .u64 (dgl (n) 1 : Nat), .int .u64 (dgl (n) 2 : Nat), .int .u64 (dgl (n) 3 : Nat), .int .u64 (dgl (n) 4 : Nat), .int .u64 (dgl (n) 5 : Nat), .int .u64 (dgl (n) 6 : Nat), .int .u64 (dgl (n) 7 : Nat)], .agg #[.int .u64 (dgl (d) 0 : Nat), .int .u64 (dgl (d) 1 : Nat), .int .u64 (dgl (d) 2 : Nat), .int .u64 (dgl (d) 3 : Nat), .int .u64 (dgl (d) 4 : Nat), .int .u64 (dgl (d) 5 : Nat), .int .u64 (dgl (d) 6 : Nat), .int .u64 (dgl (d) 7 : Nat)]] w fun e w' => e = .returned (.tuple #[.slice none 0 0, .int .i64 ((mayN n d : Nat) : Int)]) ∧ Below w.heap.size w w' :=
  digA_E n d _ (by rw [beq_eq_false_iff_ne]; omega) (fun w => may_any n d hn hd w) w
theorem digA_ok (n d : Nat) (hn : n < QQ) (hd : d < QQ) (hm : mayN n d = 0) (w : World) (hg : TabG w) :
    Calls Tryd.prog 10 #[.agg #[.int .u64 (dgl (n) 0 : Nat), .int .u64 (dgl (n) 1 : Nat), .int .u64 (dgl (n) 2 : Nat), .int .u64 (dgl (n) 3 : Nat), .int .u64 (dgl (n) 4 : Nat), .int .u64 (dgl (n) 5 : Nat), .int .u64 (dgl (n) 6 : Nat), .int .u64 (dgl (n) 7 : Nat)], .agg #[.int .u64 (dgl (d) 0 : Nat), .int .u64 (dgl (d) 1 : Nat), .int .u64 (dgl (d) 2 : Nat), .int .u64 (dgl (d) 3 : Nat), .int .u64 (dgl (d) 4 : Nat), .int .u64 (dgl (d) 5 : Nat), .int .u64 (dgl (d) 6 : Nat), .int .u64 (dgl (d) 7 : Nat)]] w fun e w' => ∃ v, e = .returned (.tuple #[v, .int .i64 0]) ∧ Rd mkZ w' v (seqL (dg15 n d) 65) ∧ Below w.heap.size w w' := by
  have hz := mayN_zero hm
  have hL : Go.bitLen d ≤ 120 := bitLen_le d 120 hz.2.1
  have h0 : d ≠ 0 := by omega
  have hl0 := (bitLen_top d h0).2.2
  have ok := ok15 n d h0 (by omega) hz.2.2
  have HM := hide (fun w => may_any n d hn hd w)
  rw [hm] at HM
  have HSH := hide (fun w => wideShl_any n ((128 - Go.bitLen d : Nat) : Int) hn w)
  rw [show roomI ((128 - Go.bitLen d : Nat) : Int) = ((128 - Go.bitLen d : Nat) : Int) by unfold roomI; omega, sh_up] at HSH
  exact digA_Y n d _ _ _ _ HM (hide fun w => normA_yes d hd hl0 hL w) HSH w (hide fun p10 W h1 h2 h3 h4 h5 => walkA_digits n d h0 (by omega) ok w W hg p10 h1 h2 h3 h4 h5)
end Go.Proofs.YtbngaajhdaciaaaDoor

/- Contracts: srt.Divide. -/
set_option linter.unusedVariables false
set_option linter.unusedSimpArgs false
set_option maxRecDepth 8000
namespace Go.Proofs.YtbngaajhdaciaaaDoor
open Go.RowKit Plain

theorem TwSt.only {a b p : Nat} {w W W' : World} (h : TwSt a b w W) (hb : Only2 p p W W') (hp : w.heap.size + 1 < p) : TwSt a b w W' :=
  ⟨hb.lies h.la (by omega) (by omega), hb.lies h.lb (by omega) (by omega), hb.under h.bel (by omega) (by omega) (Nat.le_refl _)⟩

theorem gUpon_imp {P : Program} {K K' : Value → World → Prop} {r : Result Next} (h : gUpon P K r) (hk : ∀ v w', K v w' → K' v w') : gUpon P K' r := by
  cases r with
  | ok x w' =>
    cases x <;> simp only [gUpon] at h ⊢
    case enter f args => exact h.mono fun e w'' ⟨v, he, hw⟩ => ⟨v, he, hk _ _ hw⟩
    all_goals exact hk _ _ h
  | halt x w' => simp only [gUpon] at h

set_option maxHeartbeats 2000000 in
theorem pdivA_E (n d : Nat) (ez : Int) (he : (ez == 0) = false) (HM : Hid (∀ w, Calls Tryd.prog 21 #[.agg #[.int .u64 (dgl (n) 0 : Nat), .int .u64 (dgl (n) 1 : Nat), .int .u64 (dgl (n) 2 : Nat), .int .u64 (dgl (n) 3 : Nat), .int .u64 (dgl (n) 4 : Nat), .int .u64 (dgl (n) 5 : Nat), .int .u64 (dgl (n) 6 : Nat), .int .u64 (dgl (n) 7 : Nat)], .agg #[.int .u64 (dgl (d) 0 : Nat), .int .u64 (dgl (d) 1 : Nat), .int .u64 (dgl (d) 2 : Nat), .int .u64 (dgl (d) 3 : Nat), .int .u64 (dgl (d) 4 : Nat), .int .u64 (dgl (d) 5 : Nat), .int .u64 (dgl (d) 6 : Nat), .int .u64 (dgl (d) 7 : Nat)]] w fun e w' => e = .returned (.int .i64 ez) ∧ Below w.heap.size w w')) (w : World) :
    Calls Tryd.prog 7 #[.agg #[.int .u64 (dgl (n) 0 : Nat), .int .u64 (dgl (n) 1 : Nat), .int .u64 (dgl (n) 2 : Nat), .int .u64 (dgl (n) 3 : Nat), .int .u64 (dgl (n) 4 : Nat), .int .u64 (dgl (n) 5 : Nat), .int .u64 (dgl (n) 6 : Nat), .int .u64 (dgl (n) 7 : Nat)], .agg #[.int .u64 (dgl (d) 0 : Nat), .int .u64 (dgl (d) 1 : Nat), .int .u64 (dgl (d) 2 : Nat), .int .u64 (dgl (d) 3 : Nat), .int .u64 (dgl (d) 4 : Nat), .int .u64 (dgl (d) 5 : Nat), .int .u64 (dgl (d) 6 : Nat), .int .u64 (dgl (d) 7 : Nat)]] w fun e' w' => e' = .returned (.tuple #[.agg #[.int .u64 0, .int .u64 0, .int .u64 0, .int .u64 0, .int .u64 0, .int .u64 0, .int .u64 0, .int .u64 0], .agg #[.int .u64 0, .int .u64 0, .int .u64 0, .int .u64 0, .int .u64 0, .int .u64 0, .int .u64 0, .int .u64 0], .int .i64 ez]) ∧ Below w.heap.size w w' := by
  have HS := hide (rdiv_start n d w 24 24 24 24)
  go_enter Tryd.func7, Tryd.ntmps7
  have hca := HS.out.1.la.1
  have hcb := HS.out.1.lb.1
  go_wp2_with fail
  refine (HM.out _).mono ?_
  rintro e' w1 ⟨rfl, hb1⟩
  replace HS := hide (show R2St (w.heap.size + 2) (w.heap.size + 3) 0 0 w w1 from HS.out.2.below hb1)
  clear hb1 hca hcb HM
  have hr1 := HS.out.lx.1
  have hrl1 := HS.out.lx.2
  have hrf1 := HS.out.fx
  have hr2 := HS.out.ly.1
  have hrl2 := HS.out.ly.2
  have hrf2 := HS.out.fy
  have HBE := hide HS.out.bel
  clear HS
  go_wp2
  exact bodyPost_ret (v := .tuple #[.agg #[.int .u64 0, .int .u64 0, .int .u64 0, .int .u64 0, .int .u64 0, .int .u64 0, .int .u64 0, .int .u64 0], .agg #[.int .u64 0, .int .u64 0, .int .u64 0, .int .u64 0, .int .u64 0, .int .u64 0, .int .u64 0, .int .u64 0], .int .i64 ez]) (by simp [results, Tryd.results7, go_sem, hr1, hrl1, hr2, hrl2]) rfl ⟨rfl, below_set8 (below_set8 HBE.out _ (by omega) _ _ _ _ _ _ _ _) _ (by omega) _ _ _ _ _ _ _ _⟩

set_option maxHeartbeats 8000000 in
theorem pdivA_P (n d D X r s R x0 y0 x1 y1 : Nat) (b : Int) (ov : Bool) (HM : Hid (∀ w, Calls Tryd.prog 21 #[.agg #[.int .u64 (dgl (n) 0 : Nat), .int .u64 (dgl (n) 1 : Nat), .int .u64 (dgl (n) 2 : Nat), .int .u64 (dgl (n) 3 : Nat), .int .u64 (dgl (n) 4 : Nat), .int .u64 (dgl (n) 5 : Nat), .int .u64 (dgl (n) 6 : Nat), .int .u64 (dgl (n) 7 : Nat)], .agg #[.int .u64 (dgl (d) 0 : Nat), .int .u64 (dgl (d) 1 : Nat), .int .u64 (dgl (d) 2 : Nat), .int .u64 (dgl (d) 3 : Nat), .int .u64 (dgl (d) 4 : Nat), .int .u64 (dgl (d) 5 : Nat), .int .u64 (dgl (d) 6 : Nat), .int .u64 (dgl (d) 7 : Nat)]] w fun e w' => e = .returned (.int .i64 0) ∧ Below w.heap.size w w'))
    (HNO : Hid (∀ w, Calls Tryd.prog 15 #[.agg #[.int .u64 (dgl (d) 0 : Nat), .int .u64 (dgl (d) 1 : Nat), .int .u64 (dgl (d) 2 : Nat), .int .u64 (dgl (d) 3 : Nat), .int .u64 (dgl (d) 4 : Nat), .int .u64 (dgl (d) 5 : Nat), .int .u64 (dgl (d) 6 : Nat), .int .u64 (dgl (d) 7 : Nat)]] w fun e w' => e = .returned (.tuple #[.agg #[.int .u64 (dgl (D) 0 : Nat), .int .u64 (dgl (D) 1 : Nat), .int .u64 (dgl (D) 2 : Nat), .int .u64 (dgl (D) 3 : Nat), .int .u64 (dgl (D) 4 : Nat), .int .u64 (dgl (D) 5 : Nat), .int .u64 (dgl (D) 6 : Nat), .int .u64 (dgl (D) 7 : Nat)], .int .i64 b, .bool true]) ∧ Below w.heap.size w w'))
    (HNW : Hid (∀ w, Calls Tryd.prog 27 #[.agg #[.int .u64 0, .int .u64 0, .int .u64 0, .int .u64 0, .int .u64 0, .int .u64 0, .int .u64 0, .int .u64 0]] w fun e w' => e = .returned (.agg #[.int .u64 (dgl (x0) 0 : Nat), .int .u64 (dgl (x0) 1 : Nat), .int .u64 (dgl (x0) 2 : Nat), .int .u64 (dgl (x0) 3 : Nat), .int .u64 (dgl (x0) 4 : Nat), .int .u64 (dgl (x0) 5 : Nat), .int .u64 (dgl (x0) 6 : Nat), .int .u64 (dgl (x0) 7 : Nat), .int .u64 (dgl (y0) 0 : Nat), .int .u64 (dgl (y0) 1 : Nat), .int .u64 (dgl (y0) 2 : Nat), .int .u64 (dgl (y0) 3 : Nat), .int .u64 (dgl (y0) 4 : Nat), .int .u64 (dgl (y0) 5 : Nat), .int .u64 (dgl (y0) 6 : Nat), .int .u64 (dgl (y0) 7 : Nat)]) ∧ Below w.heap.size w w'))
    (HSH : Hid (∀ w, Calls Tryd.prog 29 #[.agg #[.int .u64 (dgl (n) 0 : Nat), .int .u64 (dgl (n) 1 : Nat), .int .u64 (dgl (n) 2 : Nat), .int .u64 (dgl (n) 3 : Nat), .int .u64 (dgl (n) 4 : Nat), .int .u64 (dgl (n) 5 : Nat), .int .u64 (dgl (n) 6 : Nat), .int .u64 (dgl (n) 7 : Nat)], .int .i64 b] w fun e w' => e = .returned (.agg #[.int .u64 (dgl (X) 0 : Nat), .int .u64 (dgl (X) 1 : Nat), .int .u64 (dgl (X) 2 : Nat), .int .u64 (dgl (X) 3 : Nat), .int .u64 (dgl (X) 4 : Nat), .int .u64 (dgl (X) 5 : Nat), .int .u64 (dgl (X) 6 : Nat), .int .u64 (dgl (X) 7 : Nat)]) ∧ Below w.heap.size w w'))
    (HMI : Hid (∀ w, Calls Tryd.prog 32 #[.agg #[.int .u64 (dgl (r) 0 : Nat), .int .u64 (dgl (r) 1 : Nat), .int .u64 (dgl (r) 2 : Nat), .int .u64 (dgl (r) 3 : Nat), .int .u64 (dgl (r) 4 : Nat), .int .u64 (dgl (r) 5 : Nat), .int .u64 (dgl (r) 6 : Nat), .int .u64 (dgl (r) 7 : Nat)]] w fun e w' => e = .returned (.bool false) ∧ Below w.heap.size w w'))
    (HSR : Hid (∀ w, Calls Tryd.prog 34 #[.agg #[.int .u64 (dgl (r) 0 : Nat), .int .u64 (dgl (r) 1 : Nat), .int .u64 (dgl (r) 2 : Nat), .int .u64 (dgl (r) 3 : Nat), .int .u64 (dgl (r) 4 : Nat), .int .u64 (dgl (r) 5 : Nat), .int .u64 (dgl (r) 6 : Nat), .int .u64 (dgl (r) 7 : Nat)], .int .i64 b] w fun e w' => e = .returned (.tuple #[.agg #[.int .u64 (dgl (R) 0 : Nat), .int .u64 (dgl (R) 1 : Nat), .int .u64 (dgl (R) 2 : Nat), .int .u64 (dgl (R) 3 : Nat), .int .u64 (dgl (R) 4 : Nat), .int .u64 (dgl (R) 5 : Nat), .int .u64 (dgl (R) 6 : Nat), .int .u64 (dgl (R) 7 : Nat)], .bool ov]) ∧ Below w.heap.size w w'))
    (HWK : Hid (∀ (p11 : Nat) W, 0 < p11 → TabG W → StB W p11 x0 y0 → (∀ i, W.frozen? ⟨p11, i, none⟩ = false) → Calls Tryd.prog 28 #[.agg #[.int .u64 (dgl (X) 0 : Nat), .int .u64 (dgl (X) 1 : Nat), .int .u64 (dgl (X) 2 : Nat), .int .u64 (dgl (X) 3 : Nat), .int .u64 (dgl (X) 4 : Nat), .int .u64 (dgl (X) 5 : Nat), .int .u64 (dgl (X) 6 : Nat), .int .u64 (dgl (X) 7 : Nat)], .agg #[.int .u64 (dgl (D) 0 : Nat), .int .u64 (dgl (D) 1 : Nat), .int .u64 (dgl (D) 2 : Nat), .int .u64 (dgl (D) 3 : Nat), .int .u64 (dgl (D) 4 : Nat), .int .u64 (dgl (D) 5 : Nat), .int .u64 (dgl (D) 6 : Nat), .int .u64 (dgl (D) 7 : Nat)], .int .i64 65, .func (.func 30) #[] #[.pointer (some ⟨p11, 0, none⟩)]] W fun e w' => e = .returned (.agg #[.int .u64 (dgl (r) 0 : Nat), .int .u64 (dgl (r) 1 : Nat), .int .u64 (dgl (r) 2 : Nat), .int .u64 (dgl (r) 3 : Nat), .int .u64 (dgl (r) 4 : Nat), .int .u64 (dgl (r) 5 : Nat), .int .u64 (dgl (r) 6 : Nat), .int .u64 (dgl (r) 7 : Nat)]) ∧ StB w' p11 x1 y1 ∧ (∀ i, w'.frozen? ⟨p11, i, none⟩ = false) ∧ Only2 p11 p11 W w')) (w : World) (hg : TabG w) :
    Calls Tryd.prog 7 #[.agg #[.int .u64 (dgl (n) 0 : Nat), .int .u64 (dgl (n) 1 : Nat), .int .u64 (dgl (n) 2 : Nat), .int .u64 (dgl (n) 3 : Nat), .int .u64 (dgl (n) 4 : Nat), .int .u64 (dgl (n) 5 : Nat), .int .u64 (dgl (n) 6 : Nat), .int .u64 (dgl (n) 7 : Nat)], .agg #[.int .u64 (dgl (d) 0 : Nat), .int .u64 (dgl (d) 1 : Nat), .int .u64 (dgl (d) 2 : Nat), .int .u64 (dgl (d) 3 : Nat), .int .u64 (dgl (d) 4 : Nat), .int .u64 (dgl (d) 5 : Nat), .int .u64 (dgl (d) 6 : Nat), .int .u64 (dgl (d) 7 : Nat)]] w fun e' w' => e' = .returned (.tuple #[.agg #[.int .u64 (dgl (x1) 0 : Nat), .int .u64 (dgl (x1) 1 : Nat), .int .u64 (dgl (x1) 2 : Nat), .int .u64 (dgl (x1) 3 : Nat), .int .u64 (dgl (x1) 4 : Nat), .int .u64 (dgl (x1) 5 : Nat), .int .u64 (dgl (x1) 6 : Nat), .int .u64 (dgl (x1) 7 : Nat)], .agg #[.int .u64 (dgl (R) 0 : Nat), .int .u64 (dgl (R) 1 : Nat), .int .u64 (dgl (R) 2 : Nat), .int .u64 (dgl (R) 3 : Nat), .int .u64 (dgl (R) 4 : Nat), .int .u64 (dgl (R) 5 : Nat), .int .u64 (dgl (R) 6 : Nat), .int .u64 (dgl (R) 7 : Nat)], .int .i64 0]) ∧ Below w.heap.size w w' := by
  have HS := hide (rdiv_start n d w 24 24 24 24)
  have HG := hide hg
  clear hg
  go_enter Tryd.func7, Tryd.ntmps7
  have hca := HS.out.1.la.1
  have hcb := HS.out.1.lb.1
  go_wp2_with fail
  refine (HM.out _).mono ?_
  rintro e' w1 ⟨rfl, hb1⟩
  replace HS := hide (show TwSt n d w w1 ∧ R2St (w.heap.size + 2) (w.heap.size + 3) 0 0 w w1 from ⟨HS.out.1.below hb1, HS.out.2.below hb1⟩)
  clear hb1 hca hcb HM
  have hcb := HS.out.1.lb.1
  go_wp2_with fail
  refine (HNO.out _).mono ?_
  rintro e w3 ⟨rfl, hb3⟩
  replace HS := hide (show TwSt n d w w3 ∧ R2St (w.heap.size + 2) (w.heap.size + 3) 0 0 w w3 from ⟨HS.out.1.below hb3, HS.out.2.below hb3⟩)
  clear hb3 hcb HNO
  have HP8 := hide HS.out.2.ly.2
  go_upto_region 5 with fail
  refine wp_gen (fun W => (TwSt n d w W ∧ R2St (w.heap.size + 2) (w.heap.size + 3) 0 0 w W) ∧ LiesF W w3.heap.size (dgl D)) ⟨⟨HS.out.1.below (below_allocs _ _), HS.out.2.below (below_allocs _ _)⟩, liesF_new w3 (dgl D) _⟩ ?_
  clear HS
  generalize w3.heap.size = p8 at *
  rintro W5 h5
  have HS := hide h5
  clear h5
  go_wp2_with fail
  refine (HNW.out _).mono ?_
  rintro e w5 ⟨rfl, hb5⟩
  replace HS := hide (show (TwSt n d w w5 ∧ R2St (w.heap.size + 2) (w.heap.size + 3) 0 0 w w5) ∧ LiesF w5 p8 (dgl D) from ⟨⟨HS.out.1.1.below hb5, HS.out.1.2.below hb5⟩, HS.out.2.below hb5⟩)
  clear hb5 HNW
  replace HP8 := hide (show w.heap.size + 3 < p8 ∧ p8 < w5.heap.size from ⟨HP8.out, HS.out.2.2⟩)
  have HGT := hide (show 0 < w5.heap.size from Nat.lt_of_lt_of_le HG.out.lt HS.out.1.1.bel.size)
  go_upto_region 6 with fail
  refine wp_gen (fun W => TwSt n d w W ∧ R2St (w.heap.size + 2) (w.heap.size + 3) 0 0 w W ∧ LiesF W p8 (dgl D) ∧ (TabG W ∧ ∀ i, W.frozen? ⟨w5.heap.size, i, none⟩ = false) ∧ w5.heap.size < W.heap.size ∧ StB W w5.heap.size x0 y0) ⟨HS.out.1.1.below (below_allocs _ _), HS.out.1.2.below (below_allocs _ _), HS.out.2.below (below_allocs _ _), ⟨HG.out.below (below_trans HS.out.1.1.bel (below_allocs _ _)), fun i => by simp [go_sem]⟩, by simp, stB_new w5 x0 y0 _⟩ ?_
  clear HS HG
  generalize w5.heap.size = p11 at *
  rintro W6 h6
  have HS := hide h6
  clear h6
  replace HWK := hide (fun W => HWK.out p11 W HGT.out)
  refine wp_region_storeC 7 [5] [32, 33, 34, 35, 36, 37, 12] (fun bs => [(32, .val (.agg #[.int .u64 (dgl (n) 0 : Nat), .int .u64 (dgl (n) 1 : Nat), .int .u64 (dgl (n) 2 : Nat), .int .u64 (dgl (n) 3 : Nat), .int .u64 (dgl (n) 4 : Nat), .int .u64 (dgl (n) 5 : Nat), .int .u64 (dgl (n) 6 : Nat), .int .u64 (dgl (n) 7 : Nat)])), (33, .val (.int .i64 b)), (34, .val (.agg #[.int .u64 (dgl (X) 0 : Nat), .int .u64 (dgl (X) 1 : Nat), .int .u64 (dgl (X) 2 : Nat), .int .u64 (dgl (X) 3 : Nat), .int .u64 (dgl (X) 4 : Nat), .int .u64 (dgl (X) 5 : Nat), .int .u64 (dgl (X) 6 : Nat), .int .u64 (dgl (X) 7 : Nat)])), (35, .val (.agg #[.int .u64 (dgl (D) 0 : Nat), .int .u64 (dgl (D) 1 : Nat), .int .u64 (dgl (D) 2 : Nat), .int .u64 (dgl (D) 3 : Nat), .int .u64 (dgl (D) 4 : Nat), .int .u64 (dgl (D) 5 : Nat), .int .u64 (dgl (D) 6 : Nat), .int .u64 (dgl (D) 7 : Nat)])), (36, .val (.func (.func 30) #[] #[.pointer (some ⟨p11, 0, none⟩)])), (37, .val (.agg #[.int .u64 (dgl (r) 0 : Nat), .int .u64 (dgl (r) 1 : Nat), .int .u64 (dgl (r) 2 : Nat), .int .u64 (dgl (r) 3 : Nat), .int .u64 (dgl (r) 4 : Nat), .int .u64 (dgl (r) 5 : Nat), .int .u64 (dgl (r) 6 : Nat), .int .u64 (dgl (r) 7 : Nat)])), (12, .box (p11 + 1) (fun _ => 0))])
    (fun bs W => TwSt n d w W ∧ R2St (w.heap.size + 2) (w.heap.size + 3) 0 0 w W ∧ LiesF W p8 (dgl D) ∧ (TabG W ∧ ∀ i, W.frozen? ⟨p11, i, none⟩ = false) ∧ p11 < W.heap.size ∧ ∀ c, bs.headD false = c → StB W p11 (bif c then x1 else x0) (bif c then y1 else y0)) (fun bs => rfl) mixedOk (by kernel_rfl) (by kernel_rfl) (by kernel_rfl) (⟨HS.out.1.below (Below.refl _ _).drew, HS.out.2.1.below (Below.refl _ _).drew, HS.out.2.2.1.below (Below.refl _ _).drew, ⟨HS.out.2.2.2.1.1.below (Below.refl _ _).drew, HS.out.2.2.2.1.2⟩, HS.out.2.2.2.2.1, fun c hc => by subst hc; exact HS.out.2.2.2.2.2.below (Below.refl _ _).drew⟩) (fun bs W W' h hb => ⟨h.1.below hb, h.2.1.below hb, h.2.2.1.below hb, ⟨h.2.2.2.1.1.below hb, fun i => (hb.frozen (p := ⟨p11, i, none⟩) h.2.2.2.2.1).trans (h.2.2.2.1.2 i)⟩, Nat.lt_of_lt_of_le h.2.2.2.2.1 hb.size, fun c hc => (h.2.2.2.2.2 c hc).below hb⟩) ?_ ?_
  · refine cSt rfl (fun φ hφ => gStep_run rfl ?_) ?_
    · intro ρ W hC hc hf hL
      have e2 : ρ (.tmp 2) = .pointer (some ⟨w.heap.size, 0, none⟩) := hL 2 (by decide +kernel)
      have hl := hC.1.la.1
      simp [go_sem, hc, hf, e2, hl]
      exact ⟨Below.refl _ _, rfl⟩
    refine cSt rfl (fun φ hφ => gStep_run rfl (gRun_move 9 33 (.inl rfl) rfl (by decide +kernel) (fun v w h => h))) ?_
    refine cSt rfl (fun φ hφ => gStep_run rfl ?_) ?_
    · intro ρ W hC hc hf hL
      have e32 : ρ (.tmp 32) = .agg #[.int .u64 (dgl (n) 0 : Nat), .int .u64 (dgl (n) 1 : Nat), .int .u64 (dgl (n) 2 : Nat), .int .u64 (dgl (n) 3 : Nat), .int .u64 (dgl (n) 4 : Nat), .int .u64 (dgl (n) 5 : Nat), .int .u64 (dgl (n) 6 : Nat), .int .u64 (dgl (n) 7 : Nat)] := hL 32 (by decide +kernel)
      have e33 : ρ (.tmp 33) = .int .i64 b := hL 33 (by decide +kernel)
      simp [go_sem, hc, hf, e32, e33]
      refine (HSH.out W).mono ?_
      rintro e w' ⟨rfl, hb⟩
      exact ⟨_, rfl, by first | exact hb | (subst hb; exact Below.refl _ _), rfl⟩
    refine cSt rfl (fun φ hφ => gStep_run rfl ?_) ?_
    · intro ρ W hC hc hf hL
      have e8 : ρ (.tmp 8) = .pointer (some ⟨p8, 0, none⟩) := hL 8 (by decide +kernel)
      have hl := hC.2.2.1.1
      simp [go_sem, hc, hf, e8, hl]
      exact ⟨Below.refl _ _, rfl⟩
    refine cSt rfl (fun φ hφ => gStep_run rfl ?_) ?_
    · intro ρ W hC hc hf hL
      have e11 : ρ (.tmp 11) = .pointer (some ⟨p11, 0, none⟩) := hL 11 (by decide +kernel)
      simp [go_sem, hc, hf, e11]
      exact ⟨Below.refl _ _, rfl⟩
    refine cStS rfl ⟨rfl, ?_⟩ ?_
    · intro φ ρ W hφ hφ2 hφ3 hC hc hf hL
      have e34 : ρ (.tmp 34) = .agg #[.int .u64 (dgl (X) 0 : Nat), .int .u64 (dgl (X) 1 : Nat), .int .u64 (dgl (X) 2 : Nat), .int .u64 (dgl (X) 3 : Nat), .int .u64 (dgl (X) 4 : Nat), .int .u64 (dgl (X) 5 : Nat), .int .u64 (dgl (X) 6 : Nat), .int .u64 (dgl (X) 7 : Nat)] := hL 34 (by decide +kernel)
      have e35 : ρ (.tmp 35) = .agg #[.int .u64 (dgl (D) 0 : Nat), .int .u64 (dgl (D) 1 : Nat), .int .u64 (dgl (D) 2 : Nat), .int .u64 (dgl (D) 3 : Nat), .int .u64 (dgl (D) 4 : Nat), .int .u64 (dgl (D) 5 : Nat), .int .u64 (dgl (D) 6 : Nat), .int .u64 (dgl (D) 7 : Nat)] := hL 35 (by decide +kernel)
      have e36 : ρ (.tmp 36) = .func (.func 30) #[] #[.pointer (some ⟨p11, 0, none⟩)] := hL 36 (by decide +kernel)
      have g : StB W p11 x0 y0 := hC.2.2.2.2.2 false (by simp [hφ])
      have ho8 := HP8.out
      refine gUpon_imp (K := fun v w' => v = .agg #[.int .u64 (dgl (r) 0 : Nat), .int .u64 (dgl (r) 1 : Nat), .int .u64 (dgl (r) 2 : Nat), .int .u64 (dgl (r) 3 : Nat), .int .u64 (dgl (r) 4 : Nat), .int .u64 (dgl (r) 5 : Nat), .int .u64 (dgl (r) 6 : Nat), .int .u64 (dgl (r) 7 : Nat)] ∧ StB w' p11 x1 y1 ∧ (∀ i, w'.frozen? ⟨p11, i, none⟩ = false) ∧ Only2 p11 p11 W w') ?_ ?_
      · simp [go_sem, hc, hf, e34, e35, e36, gUpon]
        refine (HWK.out W hC.2.2.2.1.1 g hC.2.2.2.1.2).mono ?_
        rintro e w' ⟨rfl, k⟩
        exact ⟨_, rfl, rfl, k⟩
      rintro _ w' ⟨rfl, k1, k2, k3⟩
      refine ⟨⟨hC.1.only k3 (by omega), k3.r2 hC.2.1 (by omega) (by omega), k3.lies hC.2.2.1 (by omega) (by omega), ⟨hC.2.2.2.1.1.only k3 HGT.out, k2⟩, Nat.lt_of_lt_of_le hC.2.2.2.2.1 k3.size, fun c hc => ?_⟩, rfl, fun t => ?_⟩
      · have hc1 : c = true := by rw [← hc]; simp
        subst hc1
        exact k1
      refine (tbl_imp rfl (fun _ => val_imp) (tbl_imp rfl (fun _ => val_imp) (tbl_imp rfl (fun _ => val_imp) (tbl_imp rfl (fun _ => val_imp) (tbl_imp rfl (fun _ => val_imp) (tbl_imp rfl (fun _ => val_imp) (tbl_imp rfl (fun ht h => ?_) tbl_nil_imp)))))))
      · obtain ⟨q, e, hq, hlq, hzq⟩ := h
        exact ⟨q, e, hq, k3.lies hlq (by omega) (by omega), fun i => (k3.frozen hlq.2 (by omega) (by omega)).trans (hzq i)⟩
    refine cSt rfl (fun φ hφ => gStep_run rfl ?_) ?_
    · intro ρ W hC hc hf hL
      simp [go_sem, hc, hf]
      exact ⟨below_allocs _ _, _, rfl, hC.2.2.2.2.1, liesF_new _ (fun _ => 0) _, fun i => by simp [go_sem]⟩
    exact cSt0
  · intro W hC
    refine gFi 32 rfl ?_
    rintro _ rfl
    refine gFi 33 rfl ?_
    rintro _ rfl
    refine gFi 34 rfl ?_
    rintro _ rfl
    refine gFi 35 rfl ?_
    rintro _ rfl
    refine gFi 36 rfl ?_
    rintro _ rfl
    refine gFi 37 rfl ?_
    rintro _ rfl
    refine gFi 12 rfl ?_
    rintro _ ⟨p12, rfl, q12, l12, z12⟩
    refine gFi0 ?_
    simp only [List.drop_succ_cons, List.drop_zero, Act.put, List.setIfInBounds_toArray, List.set_cons_succ, List.set_cons_zero]
    have HS2 := hide (show R2St (w.heap.size + 2) (w.heap.size + 3) 0 0 w W ∧ StB W p11 x1 y1 ∧ LiesF W p8 (dgl D) ∧ LiesF W p12 (fun _ => 0) ∧ (∀ i, W.frozen? ⟨p12, i, none⟩ = false) from ⟨hC.2.1, hC.2.2.2.2.2 true rfl, hC.2.2.1, l12, z12⟩)
    have HN12 := hide (show p11 < p12 from q12)
    clear hC HS l12 z12 q12 HWK
    have h12 := HS2.out.2.2.2.1.1
    have hl12 := HS2.out.2.2.2.1.2
    have hf12 := HS2.out.2.2.2.2
    have hgt : p11 < p12 := HN12.out
    have hg8 : w.heap.size + 3 < p8 ∧ p8 < p11 := HP8.out
    go_upto_region 7 with fail
    refine wp_gen (fun V => R2St (w.heap.size + 2) (w.heap.size + 3) 0 0 w V ∧ StB V p11 x1 y1 ∧ LiesF V p8 (dgl D) ∧ LiesF V p12 (dgl r) ∧ (∀ i, V.frozen? ⟨p12, i, none⟩ = false)) ⟨?_, ?_, ?_, set8_same W p12 (dgl r) (fun _ => 0) HS2.out.2.2.2.1, fun i => by simpa [go_sem] using hf12 i⟩ ?_
    · exact HS2.out.1.under (below_set8 (Below.refl p12 W) p12 (Nat.le_refl _) _ _ _ _ _ _ _ _) (by omega)
    · exact HS2.out.2.1.under (below_set8 (Below.refl p12 W) p12 (Nat.le_refl _) _ _ _ _ _ _ _ _) hgt
    · exact lies_box HS2.out.2.2.1 (below_set8 (Below.refl p12 W) p12 (Nat.le_refl _) _ _ _ _ _ _ _ _) (by omega)
    clear HS2 h12 hl12 hf12
    rintro W7 h7
    have HS := hide h7
    have hl11 := h7.2.1.lo
    clear h7
    go_upto_region 8 with fail
    refine wp_gen (fun V => R2St (w.heap.size + 2) (w.heap.size + 3) 0 0 w V ∧ StB V p11 x1 y1 ∧ LiesF V p8 (dgl D) ∧ LiesF V p12 (dgl r) ∧ LiesF V W7.heap.size (dgl x1) ∧ (∀ i, V.frozen? ⟨p12, i, none⟩ = false) ∧ ∀ i, V.frozen? ⟨W7.heap.size, i, none⟩ = false) ⟨HS.out.1.below (below_allocs _ _), HS.out.2.1.below (below_allocs _ _), HS.out.2.2.1.below (below_allocs _ _), HS.out.2.2.2.1.below (below_allocs _ _), liesF_new W7 (dgl x1) _, fun i => ((below_allocs _ _).frozen (p := ⟨p12, i, none⟩) HS.out.2.2.2.1.2).trans (HS.out.2.2.2.2 i), fun i => by simp [go_sem]⟩ ?_
    have HO := hide HS.out.2.2.2.1.2
    have HN13 := hide (show w.heap.size + 3 < W7.heap.size from by have := HS.out.2.2.2.1.2; omega)
    replace HN12 := hide (show w.heap.size + 3 < p12 from by omega)
    clear HS hl11 hgt hg8
    generalize W7.heap.size = p13 at *
    rintro W8 h8
    have HS := hide h8
    have hl12 := h8.2.2.2.1.1
    clear h8
    go_wp2_with fail
    refine (HMI.out _).mono ?_
    rintro e w8 ⟨rfl, hb8⟩
    replace HS := hide (show R2St (w.heap.size + 2) (w.heap.size + 3) 0 0 w w8 ∧ StB w8 p11 x1 y1 ∧ LiesF w8 p8 (dgl D) ∧ LiesF w8 p12 (dgl r) ∧ LiesF w8 p13 (dgl x1) ∧ (∀ i, w8.frozen? ⟨p12, i, none⟩ = false) ∧ ∀ i, w8.frozen? ⟨p13, i, none⟩ = false from ⟨HS.out.1.below hb8, HS.out.2.1.below hb8, HS.out.2.2.1.below hb8, HS.out.2.2.2.1.below hb8, HS.out.2.2.2.2.1.below hb8, fun i => (hb8.frozen (p := ⟨p12, i, none⟩) HS.out.2.2.2.1.2).trans (HS.out.2.2.2.2.2.1 i), fun i => (hb8.frozen (p := ⟨p13, i, none⟩) HS.out.2.2.2.2.1.2).trans (HS.out.2.2.2.2.2.2 i)⟩)
    clear hb8 hl12 HMI
    replace HS := hide (show R2St (w.heap.size + 2) (w.heap.size + 3) 0 0 w w8 ∧ LiesF w8 p13 (dgl x1) ∧ LiesF w8 p12 (dgl r) from ⟨HS.out.1, HS.out.2.2.2.2.1, HS.out.2.2.2.1⟩)
    have hl12 := HS.out.2.2.1
    go_wp2_with fail
    refine (HSR.out _).mono ?_
    rintro e w10 ⟨rfl, hb10⟩
    replace HS := hide (show R2St (w.heap.size + 2) (w.heap.size + 3) 0 0 w w10 ∧ LiesF w10 p13 (dgl x1) from ⟨HS.out.1.below hb10, HS.out.2.1.below hb10⟩)
    clear hb10 hl12 HSR
    go_upto_region 11 with fail
    refine wp_gen (fun V => R2St (w.heap.size + 2) (w.heap.size + 3) 0 0 w V ∧ LiesF V p13 (dgl x1) ∧ LiesF V w10.heap.size (dgl R)) ⟨HS.out.1.below (below_allocs _ _), HS.out.2.below (below_allocs _ _), liesF_new w10 (dgl R) _⟩ ?_
    have HNE := hide (show w.heap.size + 3 < p13 ∧ w.heap.size + 3 < w10.heap.size from ⟨HN13.out, HS.out.1.ly.2⟩)
    clear HS
    generalize w10.heap.size = p14 at *
    rintro W11 h11
    have HS6 := hide h11
    clear h11
    refine wp_region_storeK 5 [2, 3] [54, 55, 6] (fun bs => [(54, .val (.agg #[.int .u64 (dgl (x1) 0 : Nat), .int .u64 (dgl (x1) 1 : Nat), .int .u64 (dgl (x1) 2 : Nat), .int .u64 (dgl (x1) 3 : Nat), .int .u64 (dgl (x1) 4 : Nat), .int .u64 (dgl (x1) 5 : Nat), .int .u64 (dgl (x1) 6 : Nat), .int .u64 (dgl (x1) 7 : Nat)])), (55, .val (.agg #[.int .u64 (dgl (R) 0 : Nat), .int .u64 (dgl (R) 1 : Nat), .int .u64 (dgl (R) 2 : Nat), .int .u64 (dgl (R) 3 : Nat), .int .u64 (dgl (R) 4 : Nat), .int .u64 (dgl (R) 5 : Nat), .int .u64 (dgl (R) 6 : Nat), .int .u64 (dgl (R) 7 : Nat)])), (6, .val (.int .i64 0))])
      (fun bs W => (∀ c e, bs.headD false = c → bs.tail.headD false = e → R2St (w.heap.size + 2) (w.heap.size + 3) (bif c then x1 else 0) (bif e then R else 0) w W) ∧ LiesF W p13 (dgl (x1)) ∧ LiesF W p14 (dgl (R))) (fun bs => rfl) mixedOk (by kernel_rfl) (by kernel_rfl) (by kernel_rfl) (⟨fun c e hc he => by subst hc; subst he; exact (HS6.out).1.below (Below.refl _ _).drew, (HS6.out).2.1.below (Below.refl _ _).drew, (HS6.out).2.2.below (Below.refl _ _).drew⟩) (fun bs W W' h hb => ⟨fun c e hc he => (h.1 c e hc he).below hb, h.2.1.below hb, h.2.2.below hb⟩) ?_ ?_
    · refine kSt rfl (fun φ hφ => gStep_run rfl ?_) ?_
      · intro ρ W hC hc hf hL
        have e13 : ρ (.tmp 13) = .pointer (some ⟨p13, 0, none⟩) := hL 13 (by decide +kernel)
        have hl := hC.2.1.1
        simp [go_sem, hc, hf, e13, hl]
        exact ⟨Below.refl _ _, rfl⟩
      refine kSt rfl (fun φ hφ => gStep_run rfl ?_) ?_
      · intro ρ W hC hc hf hL
        have e14 : ρ (.tmp 14) = .pointer (some ⟨p14, 0, none⟩) := hL 14 (by decide +kernel)
        have hl := hC.2.2.1
        simp [go_sem, hc, hf, e14, hl]
        exact ⟨Below.refl _ _, rfl⟩
      refine kStS rfl ⟨rfl, rfl, ?_⟩ ?_
      · intro φ ρ W hφ hC hc hL
        have e4 : ρ (.tmp 4) = .pointer (some ⟨w.heap.size + 2, 0, none⟩) := hL 4 (by decide +kernel)
        have e54 : ρ (.tmp 54) = .agg #[.int .u64 (dgl (x1) 0 : Nat), .int .u64 (dgl (x1) 1 : Nat), .int .u64 (dgl (x1) 2 : Nat), .int .u64 (dgl (x1) 3 : Nat), .int .u64 (dgl (x1) 4 : Nat), .int .u64 (dgl (x1) 5 : Nat), .int .u64 (dgl (x1) 6 : Nat), .int .u64 (dgl (x1) 7 : Nat)] := hL 54 (by decide +kernel)
        have g : R2St (w.heap.size + 2) (w.heap.size + 3) 0 (bif φ 3 then R else 0) w W := hC.1 false (φ 3) (by simp [hφ]) rfl
        have hz := g.lx.1
        have hzl := g.lx.2
        have hzf := g.fx
        have hne := HNE.out
        refine gUpon_of ((((((((W.setCell ⟨w.heap.size + 2, 0, none⟩ (.int .u64 (dgl (x1) 0 : Nat))).setCell ⟨w.heap.size + 2, 1, none⟩ (.int .u64 (dgl (x1) 1 : Nat))).setCell ⟨w.heap.size + 2, 2, none⟩ (.int .u64 (dgl (x1) 2 : Nat))).setCell ⟨w.heap.size + 2, 3, none⟩ (.int .u64 (dgl (x1) 3 : Nat))).setCell ⟨w.heap.size + 2, 4, none⟩ (.int .u64 (dgl (x1) 4 : Nat))).setCell ⟨w.heap.size + 2, 5, none⟩ (.int .u64 (dgl (x1) 5 : Nat))).setCell ⟨w.heap.size + 2, 6, none⟩ (.int .u64 (dgl (x1) 6 : Nat))).setCell ⟨w.heap.size + 2, 7, none⟩ (.int .u64 (dgl (x1) 7 : Nat))) ?_ (fun _ => ?_)
        · simp [go_sem, hc, e4, e54, hz, hzl, hzf, gUpon]
        refine ⟨⟨fun c e hc he => ?_, lies_ne hC.2.1 (by omega), lies_ne hC.2.2 (by omega)⟩, fun t => ?_⟩
        · have hc1 : c = true := by rw [← hc]; simp
          have he1 : e = (φ 3) := by rw [← he]; simp
          subst hc1
          subst he1
          exact g.set1 _
        refine (tbl_imp rfl (fun _ => val_imp) (tbl_imp rfl (fun _ => val_imp) (tbl_imp rfl (fun _ => val_imp) tbl_nil_imp)))
      refine kStS rfl ⟨rfl, rfl, ?_⟩ ?_
      · intro φ ρ W hφ hC hc hL
        have e5 : ρ (.tmp 5) = .pointer (some ⟨w.heap.size + 3, 0, none⟩) := hL 5 (by decide +kernel)
        have e55 : ρ (.tmp 55) = .agg #[.int .u64 (dgl (R) 0 : Nat), .int .u64 (dgl (R) 1 : Nat), .int .u64 (dgl (R) 2 : Nat), .int .u64 (dgl (R) 3 : Nat), .int .u64 (dgl (R) 4 : Nat), .int .u64 (dgl (R) 5 : Nat), .int .u64 (dgl (R) 6 : Nat), .int .u64 (dgl (R) 7 : Nat)] := hL 55 (by decide +kernel)
        have g : R2St (w.heap.size + 2) (w.heap.size + 3) (bif φ 2 then x1 else 0) 0 w W := hC.1 (φ 2) false rfl (by simp [hφ])
        have hz := g.ly.1
        have hzl := g.ly.2
        have hzf := g.fy
        have hne := HNE.out
        refine gUpon_of ((((((((W.setCell ⟨w.heap.size + 3, 0, none⟩ (.int .u64 (dgl (R) 0 : Nat))).setCell ⟨w.heap.size + 3, 1, none⟩ (.int .u64 (dgl (R) 1 : Nat))).setCell ⟨w.heap.size + 3, 2, none⟩ (.int .u64 (dgl (R) 2 : Nat))).setCell ⟨w.heap.size + 3, 3, none⟩ (.int .u64 (dgl (R) 3 : Nat))).setCell ⟨w.heap.size + 3, 4, none⟩ (.int .u64 (dgl (R) 4 : Nat))).setCell ⟨w.heap.size + 3, 5, none⟩ (.int .u64 (dgl (R) 5 : Nat))).setCell ⟨w.heap.size + 3, 6, none⟩ (.int .u64 (dgl (R) 6 : Nat))).setCell ⟨w.heap.size + 3, 7, none⟩ (.int .u64 (dgl (R) 7 : Nat))) ?_ (fun _ => ?_)
        · simp [go_sem, hc, e5, e55, hz, hzl, hzf, gUpon]
        refine ⟨⟨fun c e hc he => ?_, lies_ne hC.2.1 (by omega), lies_ne hC.2.2 (by omega)⟩, fun t => ?_⟩
        · have hc1 : c = (φ 2) := by rw [← hc]; simp
          have he1 : e = true := by rw [← he]; simp
          subst hc1
          subst he1
          exact g.set2 _
        refine (tbl_imp rfl (fun _ => val_imp) (tbl_imp rfl (fun _ => val_imp) (tbl_imp rfl (fun _ => val_imp) tbl_nil_imp)))
      refine kSt rfl (fun φ hφ => gStep_run rfl (gRun_const _ 6 (.inr rfl) rfl (fun w => rfl))) ?_
      exact kSt0
    · intro W hC
      refine gFi 54 rfl ?_
      rintro _ rfl
      refine gFi 55 rfl ?_
      rintro _ rfl
      refine gFiN rfl ?_
      refine gFiN rfl ?_
      refine gFi 6 rfl ?_
      rintro _ rfl
      refine gFi0 ?_
      simp only [List.drop_succ_cons, List.drop_zero, Act.put, List.setIfInBounds_toArray, List.set_cons_succ, List.set_cons_zero]
      have HS := hide (hC.1 true true rfl rfl)
      clear hC
      have hr1 := HS.out.lx.1
      have hrl1 := HS.out.lx.2
      have hrf1 := HS.out.fx
      have hr2 := HS.out.ly.1
      have hrl2 := HS.out.ly.2
      have hrf2 := HS.out.fy
      have HBE := hide HS.out.bel
      have HO1 := hide HS.out.o1
      have HO2 := hide HS.out.o2
      clear HS
      go_wp2
      exact bodyPost_ret (v := .tuple #[.agg #[.int .u64 (dgl (x1) 0 : Nat), .int .u64 (dgl (x1) 1 : Nat), .int .u64 (dgl (x1) 2 : Nat), .int .u64 (dgl (x1) 3 : Nat), .int .u64 (dgl (x1) 4 : Nat), .int .u64 (dgl (x1) 5 : Nat), .int .u64 (dgl (x1) 6 : Nat), .int .u64 (dgl (x1) 7 : Nat)], .agg #[.int .u64 (dgl (R) 0 : Nat), .int .u64 (dgl (R) 1 : Nat), .int .u64 (dgl (R) 2 : Nat), .int .u64 (dgl (R) 3 : Nat), .int .u64 (dgl (R) 4 : Nat), .int .u64 (dgl (R) 5 : Nat), .int .u64 (dgl (R) 6 : Nat), .int .u64 (dgl (R) 7 : Nat)], .int .i64 0]) (by simp [results, Tryd.results7, go_sem, hr1, hrl1, hr2, hrl2]) rfl ⟨rfl, HBE.out⟩
      
    

set_option maxHeartbeats 8000000 in
theorem pdivA_N (n d D X r s R x0 y0 x1 y1 : Nat) (b : Int) (ov : Bool) (HM : Hid (∀ w, Calls Tryd.prog 21 #[.agg #[.int .u64 (dgl (n) 0 : Nat), .int .u64 (dgl (n) 1 : Nat), .int .u64 (dgl (n) 2 : Nat), .int .u64 (dgl (n) 3 : Nat), .int .u64 (dgl (n) 4 : Nat), .int .u64 (dgl (n) 5 : Nat), .int .u64 (dgl (n) 6 : Nat), .int .u64 (dgl (n) 7 : Nat)], .agg #[.int .u64 (dgl (d) 0 : Nat), .int .u64 (dgl (d) 1 : Nat), .int .u64 (dgl (d) 2 : Nat), .int .u64 (dgl (d) 3 : Nat), .int .u64 (dgl (d) 4 : Nat), .int .u64 (dgl (d) 5 : Nat), .int .u64 (dgl (d) 6 : Nat), .int .u64 (dgl (d) 7 : Nat)]] w fun e w' => e = .returned (.int .i64 0) ∧ Below w.heap.size w w'))
    (HNO : Hid (∀ w, Calls Tryd.prog 15 #[.agg #[.int .u64 (dgl (d) 0 : Nat), .int .u64 (dgl (d) 1 : Nat), .int .u64 (dgl (d) 2 : Nat), .int .u64 (dgl (d) 3 : Nat), .int .u64 (dgl (d) 4 : Nat), .int .u64 (dgl (d) 5 : Nat), .int .u64 (dgl (d) 6 : Nat), .int .u64 (dgl (d) 7 : Nat)]] w fun e w' => e = .returned (.tuple #[.agg #[.int .u64 (dgl (D) 0 : Nat), .int .u64 (dgl (D) 1 : Nat), .int .u64 (dgl (D) 2 : Nat), .int .u64 (dgl (D) 3 : Nat), .int .u64 (dgl (D) 4 : Nat), .int .u64 (dgl (D) 5 : Nat), .int .u64 (dgl (D) 6 : Nat), .int .u64 (dgl (D) 7 : Nat)], .int .i64 b, .bool true]) ∧ Below w.heap.size w w'))
    (HNW : Hid (∀ w, Calls Tryd.prog 27 #[.agg #[.int .u64 0, .int .u64 0, .int .u64 0, .int .u64 0, .int .u64 0, .int .u64 0, .int .u64 0, .int .u64 0]] w fun e w' => e = .returned (.agg #[.int .u64 (dgl (x0) 0 : Nat), .int .u64 (dgl (x0) 1 : Nat), .int .u64 (dgl (x0) 2 : Nat), .int .u64 (dgl (x0) 3 : Nat), .int .u64 (dgl (x0) 4 : Nat), .int .u64 (dgl (x0) 5 : Nat), .int .u64 (dgl (x0) 6 : Nat), .int .u64 (dgl (x0) 7 : Nat), .int .u64 (dgl (y0) 0 : Nat), .int .u64 (dgl (y0) 1 : Nat), .int .u64 (dgl (y0) 2 : Nat), .int .u64 (dgl (y0) 3 : Nat), .int .u64 (dgl (y0) 4 : Nat), .int .u64 (dgl (y0) 5 : Nat), .int .u64 (dgl (y0) 6 : Nat), .int .u64 (dgl (y0) 7 : Nat)]) ∧ Below w.heap.size w w'))
    (HSH : Hid (∀ w, Calls Tryd.prog 29 #[.agg #[.int .u64 (dgl (n) 0 : Nat), .int .u64 (dgl (n) 1 : Nat), .int .u64 (dgl (n) 2 : Nat), .int .u64 (dgl (n) 3 : Nat), .int .u64 (dgl (n) 4 : Nat), .int .u64 (dgl (n) 5 : Nat), .int .u64 (dgl (n) 6 : Nat), .int .u64 (dgl (n) 7 : Nat)], .int .i64 b] w fun e w' => e = .returned (.agg #[.int .u64 (dgl (X) 0 : Nat), .int .u64 (dgl (X) 1 : Nat), .int .u64 (dgl (X) 2 : Nat), .int .u64 (dgl (X) 3 : Nat), .int .u64 (dgl (X) 4 : Nat), .int .u64 (dgl (X) 5 : Nat), .int .u64 (dgl (X) 6 : Nat), .int .u64 (dgl (X) 7 : Nat)]) ∧ Below w.heap.size w w'))
    (HMI : Hid (∀ w, Calls Tryd.prog 32 #[.agg #[.int .u64 (dgl (r) 0 : Nat), .int .u64 (dgl (r) 1 : Nat), .int .u64 (dgl (r) 2 : Nat), .int .u64 (dgl (r) 3 : Nat), .int .u64 (dgl (r) 4 : Nat), .int .u64 (dgl (r) 5 : Nat), .int .u64 (dgl (r) 6 : Nat), .int .u64 (dgl (r) 7 : Nat)]] w fun e w' => e = .returned (.bool true) ∧ Below w.heap.size w w'))
    (HSU : Hid (∀ v w, RdW w v [r, D] → Calls Tryd.prog 33 #[v] w fun e w' => e = .returned (.agg #[.int .u64 (dgl (s) 0 : Nat), .int .u64 (dgl (s) 1 : Nat), .int .u64 (dgl (s) 2 : Nat), .int .u64 (dgl (s) 3 : Nat), .int .u64 (dgl (s) 4 : Nat), .int .u64 (dgl (s) 5 : Nat), .int .u64 (dgl (s) 6 : Nat), .int .u64 (dgl (s) 7 : Nat)]) ∧ Below w.heap.size w w'))
    (HSR : Hid (∀ w, Calls Tryd.prog 34 #[.agg #[.int .u64 (dgl (s) 0 : Nat), .int .u64 (dgl (s) 1 : Nat), .int .u64 (dgl (s) 2 : Nat), .int .u64 (dgl (s) 3 : Nat), .int .u64 (dgl (s) 4 : Nat), .int .u64 (dgl (s) 5 : Nat), .int .u64 (dgl (s) 6 : Nat), .int .u64 (dgl (s) 7 : Nat)], .int .i64 b] w fun e w' => e = .returned (.tuple #[.agg #[.int .u64 (dgl (R) 0 : Nat), .int .u64 (dgl (R) 1 : Nat), .int .u64 (dgl (R) 2 : Nat), .int .u64 (dgl (R) 3 : Nat), .int .u64 (dgl (R) 4 : Nat), .int .u64 (dgl (R) 5 : Nat), .int .u64 (dgl (R) 6 : Nat), .int .u64 (dgl (R) 7 : Nat)], .bool ov]) ∧ Below w.heap.size w w'))
    (HWK : Hid (∀ (p11 : Nat) W, 0 < p11 → TabG W → StB W p11 x0 y0 → (∀ i, W.frozen? ⟨p11, i, none⟩ = false) → Calls Tryd.prog 28 #[.agg #[.int .u64 (dgl (X) 0 : Nat), .int .u64 (dgl (X) 1 : Nat), .int .u64 (dgl (X) 2 : Nat), .int .u64 (dgl (X) 3 : Nat), .int .u64 (dgl (X) 4 : Nat), .int .u64 (dgl (X) 5 : Nat), .int .u64 (dgl (X) 6 : Nat), .int .u64 (dgl (X) 7 : Nat)], .agg #[.int .u64 (dgl (D) 0 : Nat), .int .u64 (dgl (D) 1 : Nat), .int .u64 (dgl (D) 2 : Nat), .int .u64 (dgl (D) 3 : Nat), .int .u64 (dgl (D) 4 : Nat), .int .u64 (dgl (D) 5 : Nat), .int .u64 (dgl (D) 6 : Nat), .int .u64 (dgl (D) 7 : Nat)], .int .i64 65, .func (.func 30) #[] #[.pointer (some ⟨p11, 0, none⟩)]] W fun e w' => e = .returned (.agg #[.int .u64 (dgl (r) 0 : Nat), .int .u64 (dgl (r) 1 : Nat), .int .u64 (dgl (r) 2 : Nat), .int .u64 (dgl (r) 3 : Nat), .int .u64 (dgl (r) 4 : Nat), .int .u64 (dgl (r) 5 : Nat), .int .u64 (dgl (r) 6 : Nat), .int .u64 (dgl (r) 7 : Nat)]) ∧ StB w' p11 x1 y1 ∧ (∀ i, w'.frozen? ⟨p11, i, none⟩ = false) ∧ Only2 p11 p11 W w')) (w : World) (hg : TabG w) :
    Calls Tryd.prog 7 #[.agg #[.int .u64 (dgl (n) 0 : Nat), .int .u64 (dgl (n) 1 : Nat), .int .u64 (dgl (n) 2 : Nat), .int .u64 (dgl (n) 3 : Nat), .int .u64 (dgl (n) 4 : Nat), .int .u64 (dgl (n) 5 : Nat), .int .u64 (dgl (n) 6 : Nat), .int .u64 (dgl (n) 7 : Nat)], .agg #[.int .u64 (dgl (d) 0 : Nat), .int .u64 (dgl (d) 1 : Nat), .int .u64 (dgl (d) 2 : Nat), .int .u64 (dgl (d) 3 : Nat), .int .u64 (dgl (d) 4 : Nat), .int .u64 (dgl (d) 5 : Nat), .int .u64 (dgl (d) 6 : Nat), .int .u64 (dgl (d) 7 : Nat)]] w fun e' w' => e' = .returned (.tuple #[.agg #[.int .u64 (dgl (y1) 0 : Nat), .int .u64 (dgl (y1) 1 : Nat), .int .u64 (dgl (y1) 2 : Nat), .int .u64 (dgl (y1) 3 : Nat), .int .u64 (dgl (y1) 4 : Nat), .int .u64 (dgl (y1) 5 : Nat), .int .u64 (dgl (y1) 6 : Nat), .int .u64 (dgl (y1) 7 : Nat)], .agg #[.int .u64 (dgl (R) 0 : Nat), .int .u64 (dgl (R) 1 : Nat), .int .u64 (dgl (R) 2 : Nat), .int .u64 (dgl (R) 3 : Nat), .int .u64 (dgl (R) 4 : Nat), .int .u64 (dgl (R) 5 : Nat), .int .u64 (dgl (R) 6 : Nat), .int .u64 (dgl (R) 7 : Nat)], .int .i64 0]) ∧ Below w.heap.size w w' := by
  have HS := hide (rdiv_start n d w 24 24 24 24)
  have HG := hide hg
  clear hg
  go_enter Tryd.func7, Tryd.ntmps7
  have hca := HS.out.1.la.1
  have hcb := HS.out.1.lb.1
  go_wp2_with fail
  refine (HM.out _).mono ?_
  rintro e' w1 ⟨rfl, hb1⟩
  replace HS := hide (show TwSt n d w w1 ∧ R2St (w.heap.size + 2) (w.heap.size + 3) 0 0 w w1 from ⟨HS.out.1.below hb1, HS.out.2.below hb1⟩)
  clear hb1 hca hcb HM
  have hcb := HS.out.1.lb.1
  go_wp2_with fail
  refine (HNO.out _).mono ?_
  rintro e w3 ⟨rfl, hb3⟩
  replace HS := hide (show TwSt n d w w3 ∧ R2St (w.heap.size + 2) (w.heap.size + 3) 0 0 w w3 from ⟨HS.out.1.below hb3, HS.out.2.below hb3⟩)
  clear hb3 hcb HNO
  have HP8 := hide HS.out.2.ly.2
  go_upto_region 5 with fail
  refine wp_gen (fun W => (TwSt n d w W ∧ R2St (w.heap.size + 2) (w.heap.size + 3) 0 0 w W) ∧ LiesF W w3.heap.size (dgl D)) ⟨⟨HS.out.1.below (below_allocs _ _), HS.out.2.below (below_allocs _ _)⟩, liesF_new w3 (dgl D) _⟩ ?_
  clear HS
  generalize w3.heap.size = p8 at *
  rintro W5 h5
  have HS := hide h5
  clear h5
  go_wp2_with fail
  refine (HNW.out _).mono ?_
  rintro e w5 ⟨rfl, hb5⟩
  replace HS := hide (show (TwSt n d w w5 ∧ R2St (w.heap.size + 2) (w.heap.size + 3) 0 0 w w5) ∧ LiesF w5 p8 (dgl D) from ⟨⟨HS.out.1.1.below hb5, HS.out.1.2.below hb5⟩, HS.out.2.below hb5⟩)
  clear hb5 HNW
  replace HP8 := hide (show w.heap.size + 3 < p8 ∧ p8 < w5.heap.size from ⟨HP8.out, HS.out.2.2⟩)
  have HGT := hide (show 0 < w5.heap.size from Nat.lt_of_lt_of_le HG.out.lt HS.out.1.1.bel.size)
  go_upto_region 6 with fail
  refine wp_gen (fun W => TwSt n d w W ∧ R2St (w.heap.size + 2) (w.heap.size + 3) 0 0 w W ∧ LiesF W p8 (dgl D) ∧ (TabG W ∧ ∀ i, W.frozen? ⟨w5.heap.size, i, none⟩ = false) ∧ w5.heap.size < W.heap.size ∧ StB W w5.heap.size x0 y0) ⟨HS.out.1.1.below (below_allocs _ _), HS.out.1.2.below (below_allocs _ _), HS.out.2.below (below_allocs _ _), ⟨HG.out.below (below_trans HS.out.1.1.bel (below_allocs _ _)), fun i => by simp [go_sem]⟩, by simp, stB_new w5 x0 y0 _⟩ ?_
  clear HS HG
  generalize w5.heap.size = p11 at *
  rintro W6 h6
  have HS := hide h6
  clear h6
  replace HWK := hide (fun W => HWK.out p11 W HGT.out)
  refine wp_region_storeC 7 [5] [32, 33, 34, 35, 36, 37, 12] (fun bs => [(32, .val (.agg #[.int .u64 (dgl (n) 0 : Nat), .int .u64 (dgl (n) 1 : Nat), .int .u64 (dgl (n) 2 : Nat), .int .u64 (dgl (n) 3 : Nat), .int .u64 (dgl (n) 4 : Nat), .int .u64 (dgl (n) 5 : Nat), .int .u64 (dgl (n) 6 : Nat), .int .u64 (dgl (n) 7 : Nat)])), (33, .val (.int .i64 b)), (34, .val (.agg #[.int .u64 (dgl (X) 0 : Nat), .int .u64 (dgl (X) 1 : Nat), .int .u64 (dgl (X) 2 : Nat), .int .u64 (dgl (X) 3 : Nat), .int .u64 (dgl (X) 4 : Nat), .int .u64 (dgl (X) 5 : Nat), .int .u64 (dgl (X) 6 : Nat), .int .u64 (dgl (X) 7 : Nat)])), (35, .val (.agg #[.int .u64 (dgl (D) 0 : Nat), .int .u64 (dgl (D) 1 : Nat), .int .u64 (dgl (D) 2 : Nat), .int .u64 (dgl (D) 3 : Nat), .int .u64 (dgl (D) 4 : Nat), .int .u64 (dgl (D) 5 : Nat), .int .u64 (dgl (D) 6 : Nat), .int .u64 (dgl (D) 7 : Nat)])), (36, .val (.func (.func 30) #[] #[.pointer (some ⟨p11, 0, none⟩)])), (37, .val (.agg #[.int .u64 (dgl (r) 0 : Nat), .int .u64 (dgl (r) 1 : Nat), .int .u64 (dgl (r) 2 : Nat), .int .u64 (dgl (r) 3 : Nat), .int .u64 (dgl (r) 4 : Nat), .int .u64 (dgl (r) 5 : Nat), .int .u64 (dgl (r) 6 : Nat), .int .u64 (dgl (r) 7 : Nat)])), (12, .box (p11 + 1) (fun _ => 0))])
    (fun bs W => TwSt n d w W ∧ R2St (w.heap.size + 2) (w.heap.size + 3) 0 0 w W ∧ LiesF W p8 (dgl D) ∧ (TabG W ∧ ∀ i, W.frozen? ⟨p11, i, none⟩ = false) ∧ p11 < W.heap.size ∧ ∀ c, bs.headD false = c → StB W p11 (bif c then x1 else x0) (bif c then y1 else y0)) (fun bs => rfl) mixedOk (by kernel_rfl) (by kernel_rfl) (by kernel_rfl) (⟨HS.out.1.below (Below.refl _ _).drew, HS.out.2.1.below (Below.refl _ _).drew, HS.out.2.2.1.below (Below.refl _ _).drew, ⟨HS.out.2.2.2.1.1.below (Below.refl _ _).drew, HS.out.2.2.2.1.2⟩, HS.out.2.2.2.2.1, fun c hc => by subst hc; exact HS.out.2.2.2.2.2.below (Below.refl _ _).drew⟩) (fun bs W W' h hb => ⟨h.1.below hb, h.2.1.below hb, h.2.2.1.below hb, ⟨h.2.2.2.1.1.below hb, fun i => (hb.frozen (p := ⟨p11, i, none⟩) h.2.2.2.2.1).trans (h.2.2.2.1.2 i)⟩, Nat.lt_of_lt_of_le h.2.2.2.2.1 hb.size, fun c hc => (h.2.2.2.2.2 c hc).below hb⟩) ?_ ?_
  · refine cSt rfl (fun φ hφ => gStep_run rfl ?_) ?_
    · intro ρ W hC hc hf hL
      have e2 : ρ (.tmp 2) = .pointer (some ⟨w.heap.size, 0, none⟩) := hL 2 (by decide +kernel)
      have hl := hC.1.la.1
      simp [go_sem, hc, hf, e2, hl]
      exact ⟨Below.refl _ _, rfl⟩
    refine cSt rfl (fun φ hφ => gStep_run rfl (gRun_move 9 33 (.inl rfl) rfl (by decide +kernel) (fun v w h => h))) ?_
    refine cSt rfl (fun φ hφ => gStep_run rfl ?_) ?_
    · intro ρ W hC hc hf hL
      have e32 : ρ (.tmp 32) = .agg #[.int .u64 (dgl (n) 0 : Nat), .int .u64 (dgl (n) 1 : Nat), .int .u64 (dgl (n) 2 : Nat), .int .u64 (dgl (n) 3 : Nat), .int .u64 (dgl (n) 4 : Nat), .int .u64 (dgl (n) 5 : Nat), .int .u64 (dgl (n) 6 : Nat), .int .u64 (dgl (n) 7 : Nat)] := hL 32 (by decide +kernel)
      have e33 : ρ (.tmp 33) = .int .i64 b := hL 33 (by decide +kernel)
      simp [go_sem, hc, hf, e32, e33]
      refine (HSH.out W).mono ?_
      rintro e w' ⟨rfl, hb⟩
      exact ⟨_, rfl, by first | exact hb | (subst hb; exact Below.refl _ _), rfl⟩
    refine cSt rfl (fun φ hφ => gStep_run rfl ?_) ?_
    · intro ρ W hC hc hf hL
      have e8 : ρ (.tmp 8) = .pointer (some ⟨p8, 0, none⟩) := hL 8 (by decide +kernel)
      have hl := hC.2.2.1.1
      simp [go_sem, hc, hf, e8, hl]
      exact ⟨Below.refl _ _, rfl⟩
    refine cSt rfl (fun φ hφ => gStep_run rfl ?_) ?_
    · intro ρ W hC hc hf hL
      have e11 : ρ (.tmp 11) = .pointer (some ⟨p11, 0, none⟩) := hL 11 (by decide +kernel)
      simp [go_sem, hc, hf, e11]
      exact ⟨Below.refl _ _, rfl⟩
    refine cStS rfl ⟨rfl, ?_⟩ ?_
    · intro φ ρ W hφ hφ2 hφ3 hC hc hf hL
      have e34 : ρ (.tmp 34) = .agg #[.int .u64 (dgl (X) 0 : Nat), .int .u64 (dgl (X) 1 : Nat), .int .u64 (dgl (X) 2 : Nat), .int .u64 (dgl (X) 3 : Nat), .int .u64 (dgl (X) 4 : Nat), .int .u64 (dgl (X) 5 : Nat), .int .u64 (dgl (X) 6 : Nat), .int .u64 (dgl (X) 7 : Nat)] := hL 34 (by decide +kernel)
      have e35 : ρ (.tmp 35) = .agg #[.int .u64 (dgl (D) 0 : Nat), .int .u64 (dgl (D) 1 : Nat), .int .u64 (dgl (D) 2 : Nat), .int .u64 (dgl (D) 3 : Nat), .int .u64 (dgl (D) 4 : Nat), .int .u64 (dgl (D) 5 : Nat), .int .u64 (dgl (D) 6 : Nat), .int .u64 (dgl (D) 7 : Nat)] := hL 35 (by decide +kernel)
      have e36 : ρ (.tmp 36) = .func (.func 30) #[] #[.pointer (some ⟨p11, 0, none⟩)] := hL 36 (by decide +kernel)
      have g : StB W p11 x0 y0 := hC.2.2.2.2.2 false (by simp [hφ])
      have ho8 := HP8.out
      refine gUpon_imp (K := fun v w' => v = .agg #[.int .u64 (dgl (r) 0 : Nat), .int .u64 (dgl (r) 1 : Nat), .int .u64 (dgl (r) 2 : Nat), .int .u64 (dgl (r) 3 : Nat), .int .u64 (dgl (r) 4 : Nat), .int .u64 (dgl (r) 5 : Nat), .int .u64 (dgl (r) 6 : Nat), .int .u64 (dgl (r) 7 : Nat)] ∧ StB w' p11 x1 y1 ∧ (∀ i, w'.frozen? ⟨p11, i, none⟩ = false) ∧ Only2 p11 p11 W w') ?_ ?_
      · simp [go_sem, hc, hf, e34, e35, e36, gUpon]
        refine (HWK.out W hC.2.2.2.1.1 g hC.2.2.2.1.2).mono ?_
        rintro e w' ⟨rfl, k⟩
        exact ⟨_, rfl, rfl, k⟩
      rintro _ w' ⟨rfl, k1, k2, k3⟩
      refine ⟨⟨hC.1.only k3 (by omega), k3.r2 hC.2.1 (by omega) (by omega), k3.lies hC.2.2.1 (by omega) (by omega), ⟨hC.2.2.2.1.1.only k3 HGT.out, k2⟩, Nat.lt_of_lt_of_le hC.2.2.2.2.1 k3.size, fun c hc => ?_⟩, rfl, fun t => ?_⟩
      · have hc1 : c = true := by rw [← hc]; simp
        subst hc1
        exact k1
      refine (tbl_imp rfl (fun _ => val_imp) (tbl_imp rfl (fun _ => val_imp) (tbl_imp rfl (fun _ => val_imp) (tbl_imp rfl (fun _ => val_imp) (tbl_imp rfl (fun _ => val_imp) (tbl_imp rfl (fun _ => val_imp) (tbl_imp rfl (fun ht h => ?_) tbl_nil_imp)))))))
      · obtain ⟨q, e, hq, hlq, hzq⟩ := h
        exact ⟨q, e, hq, k3.lies hlq (by omega) (by omega), fun i => (k3.frozen hlq.2 (by omega) (by omega)).trans (hzq i)⟩
    refine cSt rfl (fun φ hφ => gStep_run rfl ?_) ?_
    · intro ρ W hC hc hf hL
      simp [go_sem, hc, hf]
      exact ⟨below_allocs _ _, _, rfl, hC.2.2.2.2.1, liesF_new _ (fun _ => 0) _, fun i => by simp [go_sem]⟩
    exact cSt0
  · intro W hC
    refine gFi 32 rfl ?_
    rintro _ rfl
    refine gFi 33 rfl ?_
    rintro _ rfl
    refine gFi 34 rfl ?_
    rintro _ rfl
    refine gFi 35 rfl ?_
    rintro _ rfl
    refine gFi 36 rfl ?_
    rintro _ rfl
    refine gFi 37 rfl ?_
    rintro _ rfl
    refine gFi 12 rfl ?_
    rintro _ ⟨p12, rfl, q12, l12, z12⟩
    refine gFi0 ?_
    simp only [List.drop_succ_cons, List.drop_zero, Act.put, List.setIfInBounds_toArray, List.set_cons_succ, List.set_cons_zero]
    have HS2 := hide (show R2St (w.heap.size + 2) (w.heap.size + 3) 0 0 w W ∧ StB W p11 x1 y1 ∧ LiesF W p8 (dgl D) ∧ LiesF W p12 (fun _ => 0) ∧ (∀ i, W.frozen? ⟨p12, i, none⟩ = false) from ⟨hC.2.1, hC.2.2.2.2.2 true rfl, hC.2.2.1, l12, z12⟩)
    have HN12 := hide (show p11 < p12 from q12)
    clear hC HS l12 z12 q12 HWK
    have h12 := HS2.out.2.2.2.1.1
    have hl12 := HS2.out.2.2.2.1.2
    have hf12 := HS2.out.2.2.2.2
    have hgt : p11 < p12 := HN12.out
    have hg8 : w.heap.size + 3 < p8 ∧ p8 < p11 := HP8.out
    go_upto_region 7 with fail
    refine wp_gen (fun V => R2St (w.heap.size + 2) (w.heap.size + 3) 0 0 w V ∧ StB V p11 x1 y1 ∧ LiesF V p8 (dgl D) ∧ LiesF V p12 (dgl r) ∧ (∀ i, V.frozen? ⟨p12, i, none⟩ = false)) ⟨?_, ?_, ?_, set8_same W p12 (dgl r) (fun _ => 0) HS2.out.2.2.2.1, fun i => by simpa [go_sem] using hf12 i⟩ ?_
    · exact HS2.out.1.under (below_set8 (Below.refl p12 W) p12 (Nat.le_refl _) _ _ _ _ _ _ _ _) (by omega)
    · exact HS2.out.2.1.under (below_set8 (Below.refl p12 W) p12 (Nat.le_refl _) _ _ _ _ _ _ _ _) hgt
    · exact lies_box HS2.out.2.2.1 (below_set8 (Below.refl p12 W) p12 (Nat.le_refl _) _ _ _ _ _ _ _ _) (by omega)
    clear HS2 h12 hl12 hf12
    rintro W7 h7
    have HS := hide h7
    have hl11 := h7.2.1.lo
    clear h7
    go_upto_region 8 with fail
    refine wp_gen (fun V => R2St (w.heap.size + 2) (w.heap.size + 3) 0 0 w V ∧ StB V p11 x1 y1 ∧ LiesF V p8 (dgl D) ∧ LiesF V p12 (dgl r) ∧ LiesF V W7.heap.size (dgl x1) ∧ (∀ i, V.frozen? ⟨p12, i, none⟩ = false) ∧ ∀ i, V.frozen? ⟨W7.heap.size, i, none⟩ = false) ⟨HS.out.1.below (below_allocs _ _), HS.out.2.1.below (below_allocs _ _), HS.out.2.2.1.below (below_allocs _ _), HS.out.2.2.2.1.below (below_allocs _ _), liesF_new W7 (dgl x1) _, fun i => ((below_allocs _ _).frozen (p := ⟨p12, i, none⟩) HS.out.2.2.2.1.2).trans (HS.out.2.2.2.2 i), fun i => by simp [go_sem]⟩ ?_
    have HO := hide HS.out.2.2.2.1.2
    have HN13 := hide (show w.heap.size + 3 < W7.heap.size from by have := HS.out.2.2.2.1.2; omega)
    replace HN12 := hide (show w.heap.size + 3 < p12 from by omega)
    clear HS hl11 hgt hg8
    generalize W7.heap.size = p13 at *
    rintro W8 h8
    have HS := hide h8
    have hl12 := h8.2.2.2.1.1
    clear h8
    go_wp2_with fail
    refine (HMI.out _).mono ?_
    rintro e w8 ⟨rfl, hb8⟩
    replace HS := hide (show R2St (w.heap.size + 2) (w.heap.size + 3) 0 0 w w8 ∧ StB w8 p11 x1 y1 ∧ LiesF w8 p8 (dgl D) ∧ LiesF w8 p12 (dgl r) ∧ LiesF w8 p13 (dgl x1) ∧ (∀ i, w8.frozen? ⟨p12, i, none⟩ = false) ∧ ∀ i, w8.frozen? ⟨p13, i, none⟩ = false from ⟨HS.out.1.below hb8, HS.out.2.1.below hb8, HS.out.2.2.1.below hb8, HS.out.2.2.2.1.below hb8, HS.out.2.2.2.2.1.below hb8, fun i => (hb8.frozen (p := ⟨p12, i, none⟩) HS.out.2.2.2.1.2).trans (HS.out.2.2.2.2.2.1 i), fun i => (hb8.frozen (p := ⟨p13, i, none⟩) HS.out.2.2.2.2.1.2).trans (HS.out.2.2.2.2.2.2 i)⟩)
    clear hb8 hl12 HMI
    obtain ⟨p9, hp9⟩ : ∃ p9, p8 = p9 := ⟨_, rfl⟩
    have hup9 : ∀ {V V' : World}, Below V.heap.size V V' → (R2St (w.heap.size + 2) (w.heap.size + 3) 0 0 w V ∧ StB V p11 x1 y1 ∧ LiesF V p8 (dgl D) ∧ LiesF V p12 (dgl r) ∧ LiesF V p13 (dgl x1) ∧ ((∀ i, V.frozen? ⟨p12, i, none⟩ = false) ∧ ∀ i, V.frozen? ⟨p13, i, none⟩ = false) ∧ p9 < V.heap.size) → (R2St (w.heap.size + 2) (w.heap.size + 3) 0 0 w V' ∧ StB V' p11 x1 y1 ∧ LiesF V' p8 (dgl D) ∧ LiesF V' p12 (dgl r) ∧ LiesF V' p13 (dgl x1) ∧ ((∀ i, V'.frozen? ⟨p12, i, none⟩ = false) ∧ ∀ i, V'.frozen? ⟨p13, i, none⟩ = false) ∧ p9 < V'.heap.size) := fun hb h => ⟨h.1.below hb, h.2.1.below hb, h.2.2.1.below hb, h.2.2.2.1.below hb, h.2.2.2.2.1.below hb, ⟨fun i => (hb.frozen (p := ⟨p12, i, none⟩) h.2.2.2.1.2).trans (h.2.2.2.2.2.1.1 i), fun i => (hb.frozen (p := ⟨p13, i, none⟩) h.2.2.2.2.1.2).trans (h.2.2.2.2.2.1.2 i)⟩, Nat.lt_of_lt_of_le h.2.2.2.2.2.2 hb.size⟩
    replace HS := hide (show R2St (w.heap.size + 2) (w.heap.size + 3) 0 0 w w8 ∧ StB w8 p11 x1 y1 ∧ LiesF w8 p8 (dgl D) ∧ LiesF w8 p12 (dgl r) ∧ LiesF w8 p13 (dgl x1) ∧ ((∀ i, w8.frozen? ⟨p12, i, none⟩ = false) ∧ ∀ i, w8.frozen? ⟨p13, i, none⟩ = false) ∧ p9 < w8.heap.size from ⟨HS.out.1, HS.out.2.1, HS.out.2.2.1, HS.out.2.2.2.1, HS.out.2.2.2.2.1, HS.out.2.2.2.2.2, by rw [← hp9]; exact HS.out.2.2.1.2⟩)
    clear hp9
    go_upto_region 9 with fail
    refine wp_region_grow 6 [(42, .val (.pointer (some ⟨p11, 8, none⟩))), (43, .val (.agg #[.int .u64 (dgl (y1) 0 : Nat), .int .u64 (dgl (y1) 1 : Nat), .int .u64 (dgl (y1) 2 : Nat), .int .u64 (dgl (y1) 3 : Nat), .int .u64 (dgl (y1) 4 : Nat), .int .u64 (dgl (y1) 5 : Nat), .int .u64 (dgl (y1) 6 : Nat), .int .u64 (dgl (y1) 7 : Nat)])), (44, .val (.agg #[.int .u64 (dgl (r) 0 : Nat), .int .u64 (dgl (r) 1 : Nat), .int .u64 (dgl (r) 2 : Nat), .int .u64 (dgl (r) 3 : Nat), .int .u64 (dgl (r) 4 : Nat), .int .u64 (dgl (r) 5 : Nat), .int .u64 (dgl (r) 6 : Nat), .int .u64 (dgl (r) 7 : Nat)])), (45, .val (.agg #[.int .u64 (dgl (D) 0 : Nat), .int .u64 (dgl (D) 1 : Nat), .int .u64 (dgl (D) 2 : Nat), .int .u64 (dgl (D) 3 : Nat), .int .u64 (dgl (D) 4 : Nat), .int .u64 (dgl (D) 5 : Nat), .int .u64 (dgl (D) 6 : Nat), .int .u64 (dgl (D) 7 : Nat)])), (46, .wides p9 [r, D]), (47, .val (.agg #[.int .u64 (dgl (s) 0 : Nat), .int .u64 (dgl (s) 1 : Nat), .int .u64 (dgl (s) 2 : Nat), .int .u64 (dgl (s) 3 : Nat), .int .u64 (dgl (s) 4 : Nat), .int .u64 (dgl (s) 5 : Nat), .int .u64 (dgl (s) 6 : Nat), .int .u64 (dgl (s) 7 : Nat)]))]
      (fun W => R2St (w.heap.size + 2) (w.heap.size + 3) 0 0 w W ∧ StB W p11 x1 y1 ∧ LiesF W p8 (dgl D) ∧ LiesF W p12 (dgl r) ∧ LiesF W p13 (dgl x1) ∧ ((∀ i, W.frozen? ⟨p12, i, none⟩ = false) ∧ ∀ i, W.frozen? ⟨p13, i, none⟩ = false) ∧ p9 < W.heap.size) mixedOk (by kernel_rfl) (by kernel_rfl) (hup9 (Below.refl _ _).drew HS.out) (fun W W' h hb => hup9 hb h) ?_ ?_
    · refine gSt (gStep_run rfl ?_) ?_
      · intro ρ W hC hc hf hL
        have e11 : ρ (.tmp 11) = .pointer (some ⟨p11, 0, none⟩) := hL 11 (by decide +kernel)
        simp [go_sem, hc, hf, e11]
        exact ⟨Below.refl _ _, rfl⟩
      refine gSt (gStep_run rfl ?_) ?_
      · intro ρ W hC hc hf hL
        have e42 : ρ (.tmp 42) = .pointer (some ⟨p11, 8, none⟩) := hL 42 (by decide +kernel)
        have hl0 := hC.2.1.h0
        have hl1 := hC.2.1.h1
        have hl2 := hC.2.1.h2
        have hl3 := hC.2.1.h3
        have hl4 := hC.2.1.h4
        have hl5 := hC.2.1.h5
        have hl6 := hC.2.1.h6
        have hl7 := hC.2.1.h7
        simp [go_sem, hc, hf, e42, hl0, hl1, hl2, hl3, hl4, hl5, hl6, hl7]
        exact ⟨Below.refl _ _, rfl⟩
      refine gSt (gStep_run rfl ?_) ?_
      · intro ρ W hC hc hf hL
        have e12 : ρ (.tmp 12) = .pointer (some ⟨p12, 0, none⟩) := hL 12 (by decide +kernel)
        have hl := hC.2.2.2.1.1
        simp [go_sem, hc, hf, e12, hl]
        exact ⟨Below.refl _ _, rfl⟩
      refine gSt (gStep_run rfl ?_) ?_
      · intro ρ W hC hc hf hL
        have e8 : ρ (.tmp 8) = .pointer (some ⟨p8, 0, none⟩) := hL 8 (by decide +kernel)
        have hl := hC.2.2.1.1
        simp [go_sem, hc, hf, e8, hl]
        exact ⟨Below.refl _ _, rfl⟩
      refine gSt (gStep_run rfl ?_) ?_
      · intro ρ W hC hc hf hL
        have e44 : ρ (.tmp 44) = .agg #[.int .u64 (dgl (r) 0 : Nat), .int .u64 (dgl (r) 1 : Nat), .int .u64 (dgl (r) 2 : Nat), .int .u64 (dgl (r) 3 : Nat), .int .u64 (dgl (r) 4 : Nat), .int .u64 (dgl (r) 5 : Nat), .int .u64 (dgl (r) 6 : Nat), .int .u64 (dgl (r) 7 : Nat)] := hL 44 (by decide +kernel)
        have e45 : ρ (.tmp 45) = .agg #[.int .u64 (dgl (D) 0 : Nat), .int .u64 (dgl (D) 1 : Nat), .int .u64 (dgl (D) 2 : Nat), .int .u64 (dgl (D) 3 : Nat), .int .u64 (dgl (D) 4 : Nat), .int .u64 (dgl (D) 5 : Nat), .int .u64 (dgl (D) 6 : Nat), .int .u64 (dgl (D) 7 : Nat)] := hL 45 (by decide +kernel)
        simp [go_sem, hc, hf, e44, e45]
        exact ⟨below_allocs _ _, _, rfl, hC.2.2.2.2.2.2, by simp, fun i j hi hj => wides2_new W r D _ i j hi hj⟩
      refine gSt (gStep_run rfl ?_) ?_
      · intro ρ W hC hc hf hL
        have b46 := hL 46 (by decide +kernel)
        simp [go_sem, hc, hf]
        refine (HSU.out _ _ (wides_rd (by simp) b46)).mono ?_
        rintro e w' ⟨rfl, hb⟩
        exact ⟨_, rfl, by first | exact hb | (subst hb; exact Below.refl _ _), rfl⟩
      exact gSt0
    · intro W hC
      refine gFi 42 rfl ?_
      rintro _ rfl
      refine gFi 43 rfl ?_
      rintro _ rfl
      refine gFi 44 rfl ?_
      rintro _ rfl
      refine gFi 45 rfl ?_
      rintro _ rfl
      refine gFi 46 rfl ?_
      rintro u46 b46
      refine gFi 47 rfl ?_
      rintro _ rfl
      refine gFi0 ?_
      simp only [List.drop_succ_cons, List.drop_zero, Act.put, List.setIfInBounds_toArray, List.set_cons_succ, List.set_cons_zero]
      have HS2 := hide (show R2St (w.heap.size + 2) (w.heap.size + 3) 0 0 w W ∧ LiesF W p12 (dgl r) ∧ LiesF W p13 (dgl x1) ∧ ((∀ i, W.frozen? ⟨p12, i, none⟩ = false) ∧ ∀ i, W.frozen? ⟨p13, i, none⟩ = false) from ⟨hC.1, hC.2.2.2.1, hC.2.2.2.2.1, hC.2.2.2.2.2.1⟩)
      clear hC HS b46
      have ha := HS2.out.2.1.1
      have hal := HS2.out.2.1.2
      have haf := HS2.out.2.2.2.1
      have hb := HS2.out.2.2.1.1
      have hbl := HS2.out.2.2.1.2
      have hbf := HS2.out.2.2.2.2
      have h1213 := HO.out
      have hn13 := HN13.out
      have hn12 := HN12.out
      go_upto_region 10 with fail
      refine wp_gen (fun V => R2St (w.heap.size + 2) (w.heap.size + 3) 0 0 w V ∧ LiesF V p13 (dgl y1) ∧ LiesF V p12 (dgl s)) ⟨?_, ?_, ?_⟩ ?_
      · exact HS2.out.1.under (below_set8 (below_set8 (Below.refl (w.heap.size + 4) W) p13 (by omega) _ _ _ _ _ _ _ _) p12 (by omega) _ _ _ _ _ _ _ _) (by omega)
      · exact lies_ne (set8_same W p13 (dgl y1) (dgl x1) HS2.out.2.2.1) (by omega)
      · exact set8_same _ p12 (dgl s) (dgl r) (lies_ne HS2.out.2.1 (by omega))
      clear HS2 ha hal haf hb hbl hbf h1213 hn13 hn12
      rintro W10 h10
      have HS := hide h10
      clear h10
      have hl12 := HS.out.2.2.1
      go_wp2_with fail
      refine (HSR.out _).mono ?_
      rintro e w10 ⟨rfl, hb10⟩
      replace HS := hide (show R2St (w.heap.size + 2) (w.heap.size + 3) 0 0 w w10 ∧ LiesF w10 p13 (dgl y1) from ⟨HS.out.1.below hb10, HS.out.2.1.below hb10⟩)
      clear hb10 hl12 HSR
      go_upto_region 11 with fail
      refine wp_gen (fun V => R2St (w.heap.size + 2) (w.heap.size + 3) 0 0 w V ∧ LiesF V p13 (dgl y1) ∧ LiesF V w10.heap.size (dgl R)) ⟨HS.out.1.below (below_allocs _ _), HS.out.2.below (below_allocs _ _), liesF_new w10 (dgl R) _⟩ ?_
      have HNE := hide (show w.heap.size + 3 < p13 ∧ w.heap.size + 3 < w10.heap.size from ⟨HN13.out, HS.out.1.ly.2⟩)
      clear HS
      generalize w10.heap.size = p14 at *
      rintro W11 h11
      have HS6 := hide h11
      clear h11
      refine wp_region_storeK 5 [2, 3] [54, 55, 6] (fun bs => [(54, .val (.agg #[.int .u64 (dgl (y1) 0 : Nat), .int .u64 (dgl (y1) 1 : Nat), .int .u64 (dgl (y1) 2 : Nat), .int .u64 (dgl (y1) 3 : Nat), .int .u64 (dgl (y1) 4 : Nat), .int .u64 (dgl (y1) 5 : Nat), .int .u64 (dgl (y1) 6 : Nat), .int .u64 (dgl (y1) 7 : Nat)])), (55, .val (.agg #[.int .u64 (dgl (R) 0 : Nat), .int .u64 (dgl (R) 1 : Nat), .int .u64 (dgl (R) 2 : Nat), .int .u64 (dgl (R) 3 : Nat), .int .u64 (dgl (R) 4 : Nat), .int .u64 (dgl (R) 5 : Nat), .int .u64 (dgl (R) 6 : Nat), .int .u64 (dgl (R) 7 : Nat)])), (6, .val (.int .i64 0))])
        (fun bs W => (∀ c e, bs.headD false = c → bs.tail.headD false = e → R2St (w.heap.size + 2) (w.heap.size + 3) (bif c then y1 else 0) (bif e then R else 0) w W) ∧ LiesF W p13 (dgl (y1)) ∧ LiesF W p14 (dgl (R))) (fun bs => rfl) mixedOk (by kernel_rfl) (by kernel_rfl) (by kernel_rfl) (⟨fun c e hc he => by subst hc; subst he; exact (HS6.out).1.below (Below.refl _ _).drew, (HS6.out).2.1.below (Below.refl _ _).drew, (HS6.out).2.2.below (Below.refl _ _).drew⟩) (fun bs W W' h hb => ⟨fun c e hc he => (h.1 c e hc he).below hb, h.2.1.below hb, h.2.2.below hb⟩) ?_ ?_
      · refine kSt rfl (fun φ hφ => gStep_run rfl ?_) ?_
        · intro ρ W hC hc hf hL
          have e13 : ρ (.tmp 13) = .pointer (some ⟨p13, 0, none⟩) := hL 13 (by decide +kernel)
          have hl := hC.2.1.1
          simp [go_sem, hc, hf, e13, hl]
          exact ⟨Below.refl _ _, rfl⟩
        refine kSt rfl (fun φ hφ => gStep_run rfl ?_) ?_
        · intro ρ W hC hc hf hL
          have e14 : ρ (.tmp 14) = .pointer (some ⟨p14, 0, none⟩) := hL 14 (by decide +kernel)
          have hl := hC.2.2.1
          simp [go_sem, hc, hf, e14, hl]
          exact ⟨Below.refl _ _, rfl⟩
        refine kStS rfl ⟨rfl, rfl, ?_⟩ ?_
        · intro φ ρ W hφ hC hc hL
          have e4 : ρ (.tmp 4) = .pointer (some ⟨w.heap.size + 2, 0, none⟩) := hL 4 (by decide +kernel)
          have e54 : ρ (.tmp 54) = .agg #[.int .u64 (dgl (y1) 0 : Nat), .int .u64 (dgl (y1) 1 : Nat), .int .u64 (dgl (y1) 2 : Nat), .int .u64 (dgl (y1) 3 : Nat), .int .u64 (dgl (y1) 4 : Nat), .int .u64 (dgl (y1) 5 : Nat), .int .u64 (dgl (y1) 6 : Nat), .int .u64 (dgl (y1) 7 : Nat)] := hL 54 (by decide +kernel)
          have g : R2St (w.heap.size + 2) (w.heap.size + 3) 0 (bif φ 3 then R else 0) w W := hC.1 false (φ 3) (by simp [hφ]) rfl
          have hz := g.lx.1
          have hzl := g.lx.2
          have hzf := g.fx
          have hne := HNE.out
          refine gUpon_of ((((((((W.setCell ⟨w.heap.size + 2, 0, none⟩ (.int .u64 (dgl (y1) 0 : Nat))).setCell ⟨w.heap.size + 2, 1, none⟩ (.int .u64 (dgl (y1) 1 : Nat))).setCell ⟨w.heap.size + 2, 2, none⟩ (.int .u64 (dgl (y1) 2 : Nat))).setCell ⟨w.heap.size + 2, 3, none⟩ (.int .u64 (dgl (y1) 3 : Nat))).setCell ⟨w.heap.size + 2, 4, none⟩ (.int .u64 (dgl (y1) 4 : Nat))).setCell ⟨w.heap.size + 2, 5, none⟩ (.int .u64 (dgl (y1) 5 : Nat))).setCell ⟨w.heap.size + 2, 6, none⟩ (.int .u64 (dgl (y1) 6 : Nat))).setCell ⟨w.heap.size + 2, 7, none⟩ (.int .u64 (dgl (y1) 7 : Nat))) ?_ (fun _ => ?_)
          · simp [go_sem, hc, e4, e54, hz, hzl, hzf, gUpon]
          refine ⟨⟨fun c e hc he => ?_, lies_ne hC.2.1 (by omega), lies_ne hC.2.2 (by omega)⟩, fun t => ?_⟩
          · have hc1 : c = true := by rw [← hc]; simp
            have he1 : e = (φ 3) := by rw [← he]; simp
            subst hc1
            subst he1
            exact g.set1 _
          refine (tbl_imp rfl (fun _ => val_imp) (tbl_imp rfl (fun _ => val_imp) (tbl_imp rfl (fun _ => val_imp) tbl_nil_imp)))
        refine kStS rfl ⟨rfl, rfl, ?_⟩ ?_
        · intro φ ρ W hφ hC hc hL
          have e5 : ρ (.tmp 5) = .pointer (some ⟨w.heap.size + 3, 0, none⟩) := hL 5 (by decide +kernel)
          have e55 : ρ (.tmp 55) = .agg #[.int .u64 (dgl (R) 0 : Nat), .int .u64 (dgl (R) 1 : Nat), .int .u64 (dgl (R) 2 : Nat), .int .u64 (dgl (R) 3 : Nat), .int .u64 (dgl (R) 4 : Nat), .int .u64 (dgl (R) 5 : Nat), .int .u64 (dgl (R) 6 : Nat), .int .u64 (dgl (R) 7 : Nat)] := hL 55 (by decide +kernel)
          have g : R2St (w.heap.size + 2) (w.heap.size + 3) (bif φ 2 then y1 else 0) 0 w W := hC.1 (φ 2) false rfl (by simp [hφ])
          have hz := g.ly.1
          have hzl := g.ly.2
          have hzf := g.fy
          have hne := HNE.out
          refine gUpon_of ((((((((W.setCell ⟨w.heap.size + 3, 0, none⟩ (.int .u64 (dgl (R) 0 : Nat))).setCell ⟨w.heap.size + 3, 1, none⟩ (.int .u64 (dgl (R) 1 : Nat))).setCell ⟨w.heap.size + 3, 2, none⟩ (.int .u64 (dgl (R) 2 : Nat))).setCell ⟨w.heap.size + 3, 3, none⟩ (.int .u64 (dgl (R) 3 : Nat))).setCell ⟨w.heap.size + 3, 4, none⟩ (.int .u64 (dgl (R) 4 : Nat))).setCell ⟨w.heap.size + 3, 5, none⟩ (.int .u64 (dgl (R) 5 : Nat))).setCell ⟨w.heap.size + 3, 6, none⟩ (.int .u64 (dgl (R) 6 : Nat))).setCell ⟨w.heap.size + 3, 7, none⟩ (.int .u64 (dgl (R) 7 : Nat))) ?_ (fun _ => ?_)
          · simp [go_sem, hc, e5, e55, hz, hzl, hzf, gUpon]
          refine ⟨⟨fun c e hc he => ?_, lies_ne hC.2.1 (by omega), lies_ne hC.2.2 (by omega)⟩, fun t => ?_⟩
          · have hc1 : c = (φ 2) := by rw [← hc]; simp
            have he1 : e = true := by rw [← he]; simp
            subst hc1
            subst he1
            exact g.set2 _
          refine (tbl_imp rfl (fun _ => val_imp) (tbl_imp rfl (fun _ => val_imp) (tbl_imp rfl (fun _ => val_imp) tbl_nil_imp)))
        refine kSt rfl (fun φ hφ => gStep_run rfl (gRun_const _ 6 (.inr rfl) rfl (fun w => rfl))) ?_
        exact kSt0
      · intro W hC
        refine gFi 54 rfl ?_
        rintro _ rfl
        refine gFi 55 rfl ?_
        rintro _ rfl
        refine gFiN rfl ?_
        refine gFiN rfl ?_
        refine gFi 6 rfl ?_
        rintro _ rfl
        refine gFi0 ?_
        simp only [List.drop_succ_cons, List.drop_zero, Act.put, List.setIfInBounds_toArray, List.set_cons_succ, List.set_cons_zero]
        have HS := hide (hC.1 true true rfl rfl)
        clear hC
        have hr1 := HS.out.lx.1
        have hrl1 := HS.out.lx.2
        have hrf1 := HS.out.fx
        have hr2 := HS.out.ly.1
        have hrl2 := HS.out.ly.2
        have hrf2 := HS.out.fy
        have HBE := hide HS.out.bel
        have HO1 := hide HS.out.o1
        have HO2 := hide HS.out.o2
        clear HS
        go_wp2
        exact bodyPost_ret (v := .tuple #[.agg #[.int .u64 (dgl (y1) 0 : Nat), .int .u64 (dgl (y1) 1 : Nat), .int .u64 (dgl (y1) 2 : Nat), .int .u64 (dgl (y1) 3 : Nat), .int .u64 (dgl (y1) 4 : Nat), .int .u64 (dgl (y1) 5 : Nat), .int .u64 (dgl (y1) 6 : Nat), .int .u64 (dgl (y1) 7 : Nat)], .agg #[.int .u64 (dgl (R) 0 : Nat), .int .u64 (dgl (R) 1 : Nat), .int .u64 (dgl (R) 2 : Nat), .int .u64 (dgl (R) 3 : Nat), .int .u64 (dgl (R) 4 : Nat), .int .u64 (dgl (R) 5 : Nat), .int .u64 (dgl (R) 6 : Nat), .int .u64 (dgl (R) 7 : Nat)], .int .i64 0]) (by simp [results, Tryd.results7, go_sem, hr1, hrl1, hr2, hrl2]) rfl ⟨rfl, HBE.out⟩
      
    
    

theorem sumN2 (a b : Nat) : sumN [a, b] 2 = a + b := by
  show 0 + a + b = _
  omega
/-- Divide: quotient and remainder. -/
theorem divideA_ok (n d : Nat) (hn : n < QQ) (hd : d < QQ) (hm : mayN n d = 0) (w : World) (hg : TabG w) :
    Calls Tryd.prog 7 #[.agg #[.int .u64 (dgl (n) 0 : Nat), .int .u64 (dgl (n) 1 : Nat), .int .u64 (dgl (n) 2 : Nat), .int .u64 (dgl (n) 3 : Nat), .int .u64 (dgl (n) 4 : Nat), .int .u64 (dgl (n) 5 : Nat), .int .u64 (dgl (n) 6 : Nat), .int .u64 (dgl (n) 7 : Nat)], .agg #[.int .u64 (dgl (d) 0 : Nat), .int .u64 (dgl (d) 1 : Nat), .int .u64 (dgl (d) 2 : Nat), .int .u64 (dgl (d) 3 : Nat), .int .u64 (dgl (d) 4 : Nat), .int .u64 (dgl (d) 5 : Nat), .int .u64 (dgl (d) 6 : Nat), .int .u64 (dgl (d) 7 : Nat)]] w fun e w' => e = .returned (.tuple #[.agg #[.int .u64 (dgl (n / d) 0 : Nat), .int .u64 (dgl (n / d) 1 : Nat), .int .u64 (dgl (n / d) 2 : Nat), .int .u64 (dgl (n / d) 3 : Nat), .int .u64 (dgl (n / d) 4 : Nat), .int .u64 (dgl (n / d) 5 : Nat), .int .u64 (dgl (n / d) 6 : Nat), .int .u64 (dgl (n / d) 7 : Nat)], .agg #[.int .u64 (dgl (n % d) 0 : Nat), .int .u64 (dgl (n % d) 1 : Nat), .int .u64 (dgl (n % d) 2 : Nat), .int .u64 (dgl (n % d) 3 : Nat), .int .u64 (dgl (n % d) 4 : Nat), .int .u64 (dgl (n % d) 5 : Nat), .int .u64 (dgl (n % d) 6 : Nat), .int .u64 (dgl (n % d) 7 : Nat)], .int .i64 0]) ∧ Below w.heap.size w w' := by
  have hz := mayN_zero hm
  have hL : Go.bitLen d ≤ 120 := bitLen_le d 120 hz.2.1
  have h0 : d ≠ 0 := by omega
  have hl0 := (bitLen_top d h0).2.2
  have ok := ok15 n d h0 (by omega) hz.2.2
  have hw := ok.wide 65 (by decide)
  have hfin := ok.fin
  have HM := hide (fun w => may_any n d hn hd w)
  rw [hm] at HM
  have HSH := hide (fun w => wideShl_any n ((128 - Go.bitLen d : Nat) : Int) hn w)
  rw [show roomI ((128 - Go.bitLen d : Nat) : Int) = ((128 - Go.bitLen d : Nat) : Int) by unfold roomI; omega, sh_up] at HSH
  have HNO := hide (fun w => normA_yes d hd hl0 hL w)
  have HNW : Hid (∀ w, Calls Tryd.prog 27 #[.agg #[.int .u64 0, .int .u64 0, .int .u64 0, .int .u64 0, .int .u64 0, .int .u64 0, .int .u64 0, .int .u64 0]] w fun e w' => e = .returned (.agg #[.int .u64 (dgl (qz 0) 0 : Nat), .int .u64 (dgl (qz 0) 1 : Nat), .int .u64 (dgl (qz 0) 2 : Nat), .int .u64 (dgl (qz 0) 3 : Nat), .int .u64 (dgl (qz 0) 4 : Nat), .int .u64 (dgl (qz 0) 5 : Nat), .int .u64 (dgl (qz 0) 6 : Nat), .int .u64 (dgl (qz 0) 7 : Nat), .int .u64 (dgl (qz (0 - 1)) 0 : Nat), .int .u64 (dgl (qz (0 - 1)) 1 : Nat), .int .u64 (dgl (qz (0 - 1)) 2 : Nat), .int .u64 (dgl (qz (0 - 1)) 3 : Nat), .int .u64 (dgl (qz (0 - 1)) 4 : Nat), .int .u64 (dgl (qz (0 - 1)) 5 : Nat), .int .u64 (dgl (qz (0 - 1)) 6 : Nat), .int .u64 (dgl (qz (0 - 1)) 7 : Nat)]) ∧ Below w.heap.size w w') := hide fun w => by
    have h := new_any 0 qq_pos w
    rw [qz_zero]
    simpa [dgl_zero] using h
  have HMI := hide (fun w => wideMinus_any (qz (lf15 n d 65)) (qz_lt _) w)
  rw [qz_bit _ hw.1 hw.2] at HMI
  have HWK : Hid (∀ (p11 : Nat) W, 0 < p11 → TabG W → StB W p11 (qz 0) (qz (0 - 1)) → (∀ i, W.frozen? ⟨p11, i, none⟩ = false) → Calls Tryd.prog 28 #[.agg #[.int .u64 (dgl (nu15 n d) 0 : Nat), .int .u64 (dgl (nu15 n d) 1 : Nat), .int .u64 (dgl (nu15 n d) 2 : Nat), .int .u64 (dgl (nu15 n d) 3 : Nat), .int .u64 (dgl (nu15 n d) 4 : Nat), .int .u64 (dgl (nu15 n d) 5 : Nat), .int .u64 (dgl (nu15 n d) 6 : Nat), .int .u64 (dgl (nu15 n d) 7 : Nat)], .agg #[.int .u64 (dgl (up15 d) 0 : Nat), .int .u64 (dgl (up15 d) 1 : Nat), .int .u64 (dgl (up15 d) 2 : Nat), .int .u64 (dgl (up15 d) 3 : Nat), .int .u64 (dgl (up15 d) 4 : Nat), .int .u64 (dgl (up15 d) 5 : Nat), .int .u64 (dgl (up15 d) 6 : Nat), .int .u64 (dgl (up15 d) 7 : Nat)], .int .i64 65, .func (.func 30) #[] #[.pointer (some ⟨p11, 0, none⟩)]] W fun e w' => e = .returned (.agg #[.int .u64 (dgl (qz (lf15 n d 65)) 0 : Nat), .int .u64 (dgl (qz (lf15 n d 65)) 1 : Nat), .int .u64 (dgl (qz (lf15 n d 65)) 2 : Nat), .int .u64 (dgl (qz (lf15 n d 65)) 3 : Nat), .int .u64 (dgl (qz (lf15 n d 65)) 4 : Nat), .int .u64 (dgl (qz (lf15 n d 65)) 5 : Nat), .int .u64 (dgl (qz (lf15 n d 65)) 6 : Nat), .int .u64 (dgl (qz (lf15 n d 65)) 7 : Nat)]) ∧ StB w' p11 (qz (nm15 n d 65)) (qz (nm15 n d 65 - 1)) ∧ (∀ i, w'.frozen? ⟨p11, i, none⟩ = false) ∧ Only2 p11 p11 W w') := hide fun p11 W h1 h2 h3 h4 => walkA_div n d h0 (by omega) ok W h2 p11 h3 h4 h1
  have hq2 : ((2 ^ 511 : Nat) : Int) < (QQ : Int) := by decide +kernel
  have hqd : n / d < QQ := Nat.lt_of_le_of_lt (Nat.div_le_self _ _) hn
  have hrm : n % d * 2 ^ (128 - Go.bitLen d) / 2 ^ (128 - Go.bitLen d) = n % d := Nat.mul_div_cancel _ (Nat.two_pow_pos _)
  have hrb : roomI ((128 - Go.bitLen d : Nat) : Int) = ((128 - Go.bitLen d : Nat) : Int) := by unfold roomI; omega
  by_cases hlt : lf15 n d 65 < 0
  · rw [decide_eq_true hlt] at HMI
    obtain ⟨e1, e2⟩ := hfin.2 hlt
    have hb := (Ok15.keeps ok 65 (by decide))
    have eQ : qz (nm15 n d 65 - 1) = n / d := by rw [← e1]; exact qz_nat hqd
    rw [eQ] at HWK
    have hS : n % d * 2 ^ (128 - Go.bitLen d) < QQ := by
      have h1 : n % d < d := Nat.mod_lt _ (by omega)
      have h2 : n % d * 2 ^ (128 - Go.bitLen d) ≤ up15 d := Nat.mul_le_mul_right _ (by omega)
      exact Nat.lt_of_le_of_lt h2 (up15_lt d h0 (by omega))
    have eS : (#[.int .u64 (dgl (qz (lf15 n d 65) + up15 d) 0 : Nat), .int .u64 (dgl (qz (lf15 n d 65) + up15 d) 1 : Nat), .int .u64 (dgl (qz (lf15 n d 65) + up15 d) 2 : Nat), .int .u64 (dgl (qz (lf15 n d 65) + up15 d) 3 : Nat), .int .u64 (dgl (qz (lf15 n d 65) + up15 d) 4 : Nat), .int .u64 (dgl (qz (lf15 n d 65) + up15 d) 5 : Nat), .int .u64 (dgl (qz (lf15 n d 65) + up15 d) 6 : Nat), .int .u64 (dgl (qz (lf15 n d 65) + up15 d) 7 : Nat)] : Array Value) = #[.int .u64 (dgl (n % d * 2 ^ (128 - Go.bitLen d)) 0 : Nat), .int .u64 (dgl (n % d * 2 ^ (128 - Go.bitLen d)) 1 : Nat), .int .u64 (dgl (n % d * 2 ^ (128 - Go.bitLen d)) 2 : Nat), .int .u64 (dgl (n % d * 2 ^ (128 - Go.bitLen d)) 3 : Nat), .int .u64 (dgl (n % d * 2 ^ (128 - Go.bitLen d)) 4 : Nat), .int .u64 (dgl (n % d * 2 ^ (128 - Go.bitLen d)) 5 : Nat), .int .u64 (dgl (n % d * 2 ^ (128 - Go.bitLen d)) 6 : Nat), .int .u64 (dgl (n % d * 2 ^ (128 - Go.bitLen d)) 7 : Nat)] := by
      obtain ⟨c, hc⟩ := qz_split (lf15 n d 65)
      rw [wq (x := qz (lf15 n d 65) + up15 d) (z := ((n % d * 2 ^ (128 - Go.bitLen d) : Nat) : Int)) c (by rw [Int.natCast_add, hc, e2]; omega), qz_nat hS]
    have HSU : Hid (∀ v w, RdW w v [qz (lf15 n d 65), up15 d] → Calls Tryd.prog 33 #[v] w fun e w' => e = .returned (.agg #[.int .u64 (dgl (n % d * 2 ^ (128 - Go.bitLen d)) 0 : Nat), .int .u64 (dgl (n % d * 2 ^ (128 - Go.bitLen d)) 1 : Nat), .int .u64 (dgl (n % d * 2 ^ (128 - Go.bitLen d)) 2 : Nat), .int .u64 (dgl (n % d * 2 ^ (128 - Go.bitLen d)) 3 : Nat), .int .u64 (dgl (n % d * 2 ^ (128 - Go.bitLen d)) 4 : Nat), .int .u64 (dgl (n % d * 2 ^ (128 - Go.bitLen d)) 5 : Nat), .int .u64 (dgl (n % d * 2 ^ (128 - Go.bitLen d)) 6 : Nat), .int .u64 (dgl (n % d * 2 ^ (128 - Go.bitLen d)) 7 : Nat)]) ∧ Below w.heap.size w w') := hide fun v w hv => by
      have hu := up15_lt d h0 (show Go.bitLen d ≤ 128 by omega)
      have h := prodSum_any [qz (lf15 n d 65), up15 d] v w hv (fun i => match i with
        | 0 => qz_lt _
        | 1 => hu
        | i + 2 => qq_pos)
      rw [show [qz (lf15 n d 65), up15 d].length = 2 from rfl, sumN2, eS] at h
      exact h
    have HSR := hide (fun w => wideShr_any (n % d * 2 ^ (128 - Go.bitLen d)) (128 - Go.bitLen d) _ hrb hS w)
    rw [hrm] at HSR
    exact pdivA_N n d _ _ _ _ _ _ _ _ _ _ _ HM HNO HNW HSH HMI HSU HSR HWK w hg
  · rw [decide_eq_false hlt] at HMI
    obtain ⟨e1, e2⟩ := hfin.1 (by omega)
    have eQ : qz (nm15 n d 65) = n / d := by rw [← e1]; exact qz_nat hqd
    have hS : n % d * 2 ^ (128 - Go.bitLen d) < QQ := by omega
    have eR : qz (lf15 n d 65) = n % d * 2 ^ (128 - Go.bitLen d) := by rw [← e2]; exact qz_nat hS
    rw [eQ, eR] at HWK
    rw [eR] at HMI
    have HSR := hide (fun w => wideShr_any (n % d * 2 ^ (128 - Go.bitLen d)) (128 - Go.bitLen d) _ hrb hS w)
    rw [hrm] at HSR
    exact pdivA_P n d _ _ _ 0 _ _ _ _ _ _ _ HM HNO HNW HSH HMI HSR HWK w hg
theorem divideA_err (n d : Nat) (hn : n < QQ) (hd : d < QQ) (hm : mayN n d ≠ 0) (w : World) :
    Calls Tryd.prog 7 #[.agg #[.int .u64 (dgl (n) 0 : Nat), .int .u64 (dgl (n) 1 : Nat), .int .u64 (dgl (n) 2 : Nat), .int .u64 (dgl (n) 3 : Nat), .int .u64 (dgl (n) 4 : Nat), .int .u64 (dgl (n) 5 : Nat), .int .u64 (dgl (n) 6 : Nat), .int .u64 (dgl (n) 7 : Nat)], .agg #[.int .u64 (dgl (d) 0 : Nat), .int .u64 (dgl (d) 1 : Nat), .int .u64 (dgl (d) 2 : Nat), .int .u64 (dgl (d) 3 : Nat), .int .u64 (dgl (d) 4 : Nat), .int .u64 (dgl (d) 5 : Nat), .int .u64 (dgl (d) 6 : Nat), .int .u64 (dgl (d) 7 : Nat)]] w fun e w' => e = .returned (.tuple #[.agg #[.int .u64 0, .int .u64 0, .int .u64 0, .int .u64 0, .int .u64 0, .int .u64 0, .int .u64 0, .int .u64 0], .agg #[.int .u64 0, .int .u64 0, .int .u64 0, .int .u64 0, .int .u64 0, .int .u64 0, .int .u64 0, .int .u64 0], .int .i64 ((mayN n d : Nat) : Int)]) ∧ Below w.heap.size w w' :=
  pdivA_E n d _ (by rw [beq_eq_false_iff_ne]; omega) (hide fun w => may_any n d hn hd w) w
end Go.Proofs.YtbngaajhdaciaaaDoor

/- Contracts: radicandlaw15's example. -/
set_option linter.unusedVariables false
set_option linter.unusedSimpArgs false
set_option maxRecDepth 8000
namespace Go.Proofs.YtbngaajhdaciaaaDoor
open Go.RowKit Plain

set_option maxHeartbeats 2000000 in
theorem awake15_walk (a b : Nat) (ha : ∀ w, (Op.equalIn 10000 24 (.agg #[.int .u64 (dgl (a) 0 : Nat), .int .u64 (dgl (a) 1 : Nat), .int .u64 (dgl (a) 2 : Nat), .int .u64 (dgl (a) 3 : Nat), .int .u64 (dgl (a) 4 : Nat), .int .u64 (dgl (a) 5 : Nat), .int .u64 (dgl (a) 6 : Nat), .int .u64 (dgl (a) 7 : Nat)]) (.agg #[.int .u64 14, .int .u64 0, .int .u64 0, .int .u64 0, .int .u64 0, .int .u64 0, .int .u64 0, .int .u64 0])).run Tryd.prog w = .ok true w) (hb : ∀ w, (Op.equalIn 10000 24 (.agg #[.int .u64 (dgl (b) 0 : Nat), .int .u64 (dgl (b) 1 : Nat), .int .u64 (dgl (b) 2 : Nat), .int .u64 (dgl (b) 3 : Nat), .int .u64 (dgl (b) 4 : Nat), .int .u64 (dgl (b) 5 : Nat), .int .u64 (dgl (b) 6 : Nat), .int .u64 (dgl (b) 7 : Nat)]) (.agg #[.int .u64 2, .int .u64 0, .int .u64 0, .int .u64 0, .int .u64 0, .int .u64 0, .int .u64 0, .int .u64 0])).run Tryd.prog w = .ok true w)
    (HD : Hid (∀ w, TabG w → Calls Tryd.prog 7 #[.agg #[.int .u64 100, .int .u64 0, .int .u64 0, .int .u64 0, .int .u64 0, .int .u64 0, .int .u64 0, .int .u64 0], .agg #[.int .u64 7, .int .u64 0, .int .u64 0, .int .u64 0, .int .u64 0, .int .u64 0, .int .u64 0, .int .u64 0]] w fun e w' => e = .returned (.tuple #[.agg #[.int .u64 (dgl (a) 0 : Nat), .int .u64 (dgl (a) 1 : Nat), .int .u64 (dgl (a) 2 : Nat), .int .u64 (dgl (a) 3 : Nat), .int .u64 (dgl (a) 4 : Nat), .int .u64 (dgl (a) 5 : Nat), .int .u64 (dgl (a) 6 : Nat), .int .u64 (dgl (a) 7 : Nat)], .agg #[.int .u64 (dgl (b) 0 : Nat), .int .u64 (dgl (b) 1 : Nat), .int .u64 (dgl (b) 2 : Nat), .int .u64 (dgl (b) 3 : Nat), .int .u64 (dgl (b) 4 : Nat), .int .u64 (dgl (b) 5 : Nat), .int .u64 (dgl (b) 6 : Nat), .int .u64 (dgl (b) 7 : Nat)], .int .i64 0]) ∧ Below w.heap.size w w'))
    (HG : Hid (∀ w, TabG w → Calls Tryd.prog 10 #[.agg #[.int .u64 100, .int .u64 0, .int .u64 0, .int .u64 0, .int .u64 0, .int .u64 0, .int .u64 0, .int .u64 0], .agg #[.int .u64 7, .int .u64 0, .int .u64 0, .int .u64 0, .int .u64 0, .int .u64 0, .int .u64 0, .int .u64 0]] w fun e w' => ∃ ao ca, e = .returned (.tuple #[.slice ao 65 ca, .int .i64 0]) ∧ Below w.heap.size w w')) (w : World) (hg : TabG w) :
    Calls Tryd.prog 9 #[] w fun e w' => e = .returned (.bool true) ∧ Below w.heap.size w w' := by
  have HT := hide hg
  clear hg
  go_enter Tryd.func9, Tryd.ntmps9
  go_wp2_with fail
  refine (HD.out _ HT.out).mono ?_
  rintro e w1 ⟨rfl, hb1⟩
  go_upto_region 2 with fail
  have hbw := below_trans (below_allocs w1 (.cells #[.int .u64 (dgl (a) 0 : Nat), .int .u64 (dgl (a) 1 : Nat), .int .u64 (dgl (a) 2 : Nat), .int .u64 (dgl (a) 3 : Nat), .int .u64 (dgl (a) 4 : Nat), .int .u64 (dgl (a) 5 : Nat), .int .u64 (dgl (a) 6 : Nat), .int .u64 (dgl (a) 7 : Nat)] 24)) (below_allocs _ (.cells #[.int .u64 (dgl (b) 0 : Nat), .int .u64 (dgl (b) 1 : Nat), .int .u64 (dgl (b) 2 : Nat), .int .u64 (dgl (b) 3 : Nat), .int .u64 (dgl (b) 4 : Nat), .int .u64 (dgl (b) 5 : Nat), .int .u64 (dgl (b) 6 : Nat), .int .u64 (dgl (b) 7 : Nat)] 24))
  refine wp_gen (fun W => R2St w1.heap.size (w1.heap.size + 1) a b w W ∧ TabG W) ⟨r2_put w w1 a b hb1 _ _, HT.out.below (below_trans hb1 hbw)⟩ ?_
  clear hb1 HD HT hbw
  rintro W2 h2
  have HS := hide h2
  clear h2
  go_wp2_with fail
  refine (HG.out _ HS.out.2).mono ?_
  rintro e w3 ⟨ao, ca, rfl, hb3⟩
  have hl1 := (HS.out.1.below hb3).lx.1
  have hl2 := (HS.out.1.below hb3).ly.1
  have HB := hide (HS.out.1.below hb3).bel
  clear HS hb3 HG
  go_wp2
  go_ret
  exact ⟨rfl, HB.out⟩
theorem awake15_any (w : World) (hg : TabG w) : Calls Tryd.prog 9 #[] w fun e w' => e = .returned (.bool true) ∧ Below w.heap.size w w' := by
  have hq : 18446744073709551616 < QQ := by decide +kernel
  refine awake15_walk 14 2 (fun w => ?_) (fun w => ?_) (hide fun w hg => ?_) (hide fun w hg => ?_) w hg
  · have := wide_lit 14 14 (by omega) (by decide) w
    rw [decide_eq_true rfl] at this
    exact this
  · have := wide_lit 2 2 (by omega) (by decide) w
    rw [decide_eq_true rfl] at this
    exact this
  · have h := divideA_ok 100 7 (by omega) (by omega) (by decide +kernel) w hg
    rw [w8_small 100 (by decide), w8_small 7 (by decide)] at h
    exact h
  · have h := digA_ok 100 7 (by omega) (by omega) (by decide +kernel) w hg
    rw [w8_small 100 (by decide), w8_small 7 (by decide)] at h
    refine h.mono ?_
    rintro e w' ⟨v, rfl, ⟨ao, ca, rfl, -⟩, hb⟩
    exact ⟨ao, ca, by rw [seqL_len], hb⟩
end Go.Proofs.YtbngaajhdaciaaaDoor

