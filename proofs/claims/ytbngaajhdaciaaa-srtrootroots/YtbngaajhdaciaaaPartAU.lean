/- Contracts and laws: SrqC, SrqD, SrqE, SrrA, SrrB, SrrC, SrrD. -/
import Derived.Test.YtbngaajhdaciaaaPartAM
import Derived.Test.YtbngaajhdaciaaaPartAP
import Derived.Test.YtbngaajhdaciaaaPartAS
import Derived.Test.YtbngaajhdaciaaaPartAT
import Derived.Test.YtbngaajhdaciaaaPartAR
import Derived.Test.YtbngaajhdaciaaaPartAJ
/- Contracts: what srt.walk hands on, a step: its closure. -/
set_option linter.unusedVariables false
set_option linter.unusedSimpArgs false
set_option maxRecDepth 8000
namespace Go.Proofs.Ytbngaajhdaciaaa
open Go.RowKit Plain

/-- Outside the blocks from B on, up to C, the world is as it was. -/
structure ApartC (B C : Nat) (w w' : World) : Prop where
  os : w'.os = w.os
  tape : w'.tape = w.tape
  output : w'.output = w.output
  size : w.heap.size ≤ w'.heap.size
  block : ∀ k, k < w.heap.size → (k < B ∨ C ≤ k) → w'.heap[k]? = w.heap[k]?
/-- The blocks from B on, up to C, are as they were. -/
structure KeptC (B C : Nat) (w w' : World) : Prop where
  size : w.heap.size ≤ w'.heap.size
  block : ∀ k, B ≤ k → k < C → w'.heap[k]? = w.heap[k]?
section
variable {B C : Nat} {w w' : World}
theorem apartC_of (h : Below w.heap.size w w') : ApartC B C w w' := ⟨h.os, h.tape, h.output, h.size, fun k hk _ => h.block k hk⟩
theorem ApartC.then {w2 : World} (h : ApartC B C w w') (hb : Below w'.heap.size w' w2) : ApartC B C w w2 :=
  ⟨hb.os.trans h.os, hb.tape.trans h.tape, hb.output.trans h.output, Nat.le_trans h.size hb.size, fun k hk ho => (hb.block k (Nat.lt_of_lt_of_le hk h.size)).trans (h.block k hk ho)⟩
theorem apartC_only {p : Nat} (h : Only2 p p w w') (h1 : B ≤ p) (h2 : p < C) : ApartC B C w w' := ⟨h.os, h.tape, h.output, h.size, fun k hk ho => h.block k hk (by omega) (by omega)⟩
theorem ApartC.cell (h : ApartC B C w w') {b i : Nat} (hb : b < w.heap.size) (ho : b < B ∨ C ≤ b) : w'.cell? ⟨b, i, none⟩ = w.cell? ⟨b, i, none⟩ := World.cell?_of_block (w := w) (h.block b hb ho)
theorem ApartC.frozen (h : ApartC B C w w') {b i : Nat} (hb : b < w.heap.size) (ho : b < B ∨ C ≤ b) : w'.frozen? ⟨b, i, none⟩ = w.frozen? ⟨b, i, none⟩ := World.frozen?_of_block (w := w) (h.block b hb ho)
theorem ApartC.under {D : Nat} {w0 : World} (h : ApartC B C w w') (hb : Below D w0 w) (hc : D ≤ B) (hw : D ≤ w0.heap.size) : Below D w0 w' :=
  ⟨h.os.trans hb.os, h.tape.trans hb.tape, h.output.trans hb.output, Nat.le_trans hb.size h.size, fun k hk => (h.block k (Nat.lt_of_lt_of_le hk (Nat.le_trans hw hb.size)) (.inl (by omega))).trans (hb.block k hk)⟩
theorem apartC_set8 (W : World) (b : Nat) (h1 : B ≤ b) (h2 : b < C) (f : Nat → Nat) : ApartC B C W ((((((((W.setCell ⟨b, 0, none⟩ (.int .u64 (f 0 : Nat))).setCell ⟨b, 1, none⟩ (.int .u64 (f 1 : Nat))).setCell ⟨b, 2, none⟩ (.int .u64 (f 2 : Nat))).setCell ⟨b, 3, none⟩ (.int .u64 (f 3 : Nat))).setCell ⟨b, 4, none⟩ (.int .u64 (f 4 : Nat))).setCell ⟨b, 5, none⟩ (.int .u64 (f 5 : Nat))).setCell ⟨b, 6, none⟩ (.int .u64 (f 6 : Nat))).setCell ⟨b, 7, none⟩ (.int .u64 (f 7 : Nat))) :=
  apartC_only (p := b) (Only2.setp8 ⟨rfl, rfl, rfl, Nat.le_refl _, fun k hk _ _ => rfl⟩ f) h1 h2
theorem KeptC.cell (h : KeptC B C w w') {b i : Nat} (h1 : B ≤ b) (h2 : b < C) : w'.cell? ⟨b, i, none⟩ = w.cell? ⟨b, i, none⟩ := World.cell?_of_block (w := w) (h.block b h1 h2)
theorem KeptC.frozen (h : KeptC B C w w') {b i : Nat} (h1 : B ≤ b) (h2 : b < C) : w'.frozen? ⟨b, i, none⟩ = w.frozen? ⟨b, i, none⟩ := World.frozen?_of_block (w := w) (h.block b h1 h2)
theorem KeptC.lies (h : KeptC B C w w') {b : Nat} {f : Nat → Nat} (hl : LiesF w b f) (h1 : B ≤ b) (h2 : b < C) : LiesF w' b f :=
  ⟨fun i hi => (h.cell h1 h2).trans (hl.1 i hi), Nat.lt_of_lt_of_le hl.2 h.size⟩
end
section
variable {i : Int} {x D p9 p11 p5 : Nat} {w W W' : World}
end

end Go.Proofs.Ytbngaajhdaciaaa

/- Contracts: srt.walk, over any function that is told the digits. -/
set_option linter.unusedVariables false
set_option linter.unusedSimpArgs false
set_option maxRecDepth 8000
namespace Go.Proofs.Ytbngaajhdaciaaa
open Go.RowKit Plain

section
variable {D x p9 : Nat} {i : Int} {w W W' : World}
end
end Go.Proofs.Ytbngaajhdaciaaa

/- Contracts: srt.walk in numbers; the closures that are told the digits; srt.Norm. -/
set_option linter.unusedVariables false
set_option linter.unusedSimpArgs false
set_option maxRecDepth 8000
namespace Go.Proofs.Ytbngaajhdaciaaa
open Go.RowKit Plain

theorem div_bd (z : Int) (E B : Nat) (hE : 0 < E) (h : z.natAbs / E < B) : -(B : Int) ≤ z / (E : Int) ∧ z / (E : Int) < (B : Int) := by
  have h1 := Nat.lt_mul_of_div_lt h hE
  have e : (z.natAbs : Int) < (B : Int) * (E : Int) := by exact_mod_cast h1
  have hE2 : (0 : Int) < (E : Int) := by omega
  constructor
  · refine (Int.le_ediv_iff_mul_le hE2).2 ?_
    rw [Int.neg_mul]
    omega
  · refine (Int.ediv_lt_iff_lt_mul hE2).2 ?_
    omega
theorem int_infoA : (Try.prog.info? 3).map (fun i => (i.zero, i.size, i.bytes)) = some (some (.int .i64 0), 1, 8) := by kernel_rfl
/-- What Digits goes by: the digits so far. -/
structure DgA (f : Nat → Int) (B C p7 j : Nat) (w W : World) : Prop where
  v : ∃ v, W.cell? ⟨p7, 0, none⟩ = some v ∧ W.frozen? ⟨p7, 0, none⟩ = false ∧ W.ownsRow C 3 1 v j ((seqL f j).map mkZ)
  lt : p7 < W.heap.size
  bel : Below w.heap.size w W
  o : w.heap.size ≤ p7
  ob : p7 < B
  oc : B ≤ C
theorem DgA.apart {f : Nat → Int} {B C p7 j : Nat} {w W W' : World} (h : DgA f B C p7 j w W) (hb : ApartC B C W W') (hB : w.heap.size ≤ B) : DgA f B C p7 j w W' := by
  obtain ⟨v, h1, h2, h3⟩ := h.v
  have hob := h.ob
  refine ⟨⟨v, (hb.cell h.lt (.inl h.ob)).trans h1, (hb.frozen h.lt (.inl h.ob)).trans h2, owns_of_block h3 fun g hg => ?_⟩, Nat.lt_of_lt_of_le h.lt hb.size, hb.under h.bel hB (Nat.le_refl _), h.o, h.ob, h.oc⟩
  have hl := h3.lt g hg
  exact hb.block g hl.2 (.inr hl.1)
theorem DgA.but {f : Nat → Int} {B C p7 j : Nat} {w W W' : World} (h : DgA f B C p7 j w W) (hb : But p7 C W W') (v : Value) (h1 : W'.cell? ⟨p7, 0, none⟩ = some v) (h2 : W'.frozen? ⟨p7, 0, none⟩ = false) (h3 : W'.ownsRow C 3 1 v (j + 1) ((seqL f (j + 1)).map mkZ)) : DgA f B C p7 (j + 1) w W' :=
  ⟨⟨v, h1, h2, h3⟩, Nat.lt_of_lt_of_le h.lt hb.size, ⟨hb.os.trans h.bel.os, hb.tape.trans h.bel.tape, hb.output.trans h.bel.output, Nat.le_trans h.bel.size hb.size, fun k hk => (hb.block k (by have := h.o; have := h.ob; have := h.oc; omega) (by have := h.o; omega)).trans (h.bel.block k hk)⟩, h.o, h.ob, h.oc⟩
end Go.Proofs.Ytbngaajhdaciaaa

/- Contracts: srtroot.next, and what srtroot.walk hands on, a step: its closure. -/
set_option linter.unusedVariables false
set_option linter.unusedSimpArgs false
set_option maxRecDepth 8000
namespace Go.Proofs.Ytbngaajhdaciaaa
open Go.RowKit Plain

set_option maxHeartbeats 4000000 in
theorem nextB_walk (j d2 q2 x y a b : Nat) (s z k : Int) (hj : j ≤ 63) (hd2 : d2 = 2 * j) (hq2 : q2 = 248 - 2 * j)
    (HS1 : Hid (∀ w, Calls Try.prog 66 #[.agg #[.int .u64 (dgl (x) 0 : Nat), .int .u64 (dgl (x) 1 : Nat), .int .u64 (dgl (x) 2 : Nat), .int .u64 (dgl (x) 3 : Nat), .int .u64 (dgl (x) 4 : Nat), .int .u64 (dgl (x) 5 : Nat), .int .u64 (dgl (x) 6 : Nat), .int .u64 (dgl (x) 7 : Nat)], .int .i64 122] w fun e w' => e = .returned (.agg #[.int .u64 (dgl (a) 0 : Nat), .int .u64 (dgl (a) 1 : Nat), .int .u64 (dgl (a) 2 : Nat), .int .u64 (dgl (a) 3 : Nat), .int .u64 (dgl (a) 4 : Nat), .int .u64 (dgl (a) 5 : Nat), .int .u64 (dgl (a) 6 : Nat), .int .u64 (dgl (a) 7 : Nat)]) ∧ Below w.heap.size w w'))
    (HW1 : Hid (∀ w, Calls Try.prog 65 #[.agg #[.int .u64 (dgl (a) 0 : Nat), .int .u64 (dgl (a) 1 : Nat), .int .u64 (dgl (a) 2 : Nat), .int .u64 (dgl (a) 3 : Nat), .int .u64 (dgl (a) 4 : Nat), .int .u64 (dgl (a) 5 : Nat), .int .u64 (dgl (a) 6 : Nat), .int .u64 (dgl (a) 7 : Nat)]] w fun e w' => e = .returned (.int .i64 s) ∧ Below w.heap.size w w'))
    (HS2 : Hid (∀ w, Calls Try.prog 66 #[.agg #[.int .u64 (dgl (y) 0 : Nat), .int .u64 (dgl (y) 1 : Nat), .int .u64 (dgl (y) 2 : Nat), .int .u64 (dgl (y) 3 : Nat), .int .u64 (dgl (y) 4 : Nat), .int .u64 (dgl (y) 5 : Nat), .int .u64 (dgl (y) 6 : Nat), .int .u64 (dgl (y) 7 : Nat)], .int .i64 (q2 : Nat)] w fun e w' => e = .returned (.agg #[.int .u64 (dgl (b) 0 : Nat), .int .u64 (dgl (b) 1 : Nat), .int .u64 (dgl (b) 2 : Nat), .int .u64 (dgl (b) 3 : Nat), .int .u64 (dgl (b) 4 : Nat), .int .u64 (dgl (b) 5 : Nat), .int .u64 (dgl (b) 6 : Nat), .int .u64 (dgl (b) 7 : Nat)]) ∧ Below w.heap.size w w'))
    (HW2 : Hid (∀ w, Calls Try.prog 65 #[.agg #[.int .u64 (dgl (b) 0 : Nat), .int .u64 (dgl (b) 1 : Nat), .int .u64 (dgl (b) 2 : Nat), .int .u64 (dgl (b) 3 : Nat), .int .u64 (dgl (b) 4 : Nat), .int .u64 (dgl (b) 5 : Nat), .int .u64 (dgl (b) 6 : Nat), .int .u64 (dgl (b) 7 : Nat)]] w fun e w' => e = .returned (.int .i64 z) ∧ Below w.heap.size w w'))
    (HRD : Hid (∀ w, Calls Try.prog 64 #[.int .i64 (j : Nat), .int .i64 s, .int .i64 z] w fun e w' => e = .returned (.tuple #[.int .i64 k, .bool true]) ∧ Below w.heap.size w w')) (w : World) :
    Calls Try.prog 51 #[.int .i64 (j : Nat), .agg #[.int .u64 (dgl (x) 0 : Nat), .int .u64 (dgl (x) 1 : Nat), .int .u64 (dgl (x) 2 : Nat), .int .u64 (dgl (x) 3 : Nat), .int .u64 (dgl (x) 4 : Nat), .int .u64 (dgl (x) 5 : Nat), .int .u64 (dgl (x) 6 : Nat), .int .u64 (dgl (x) 7 : Nat)], .agg #[.int .u64 (dgl (y) 0 : Nat), .int .u64 (dgl (y) 1 : Nat), .int .u64 (dgl (y) 2 : Nat), .int .u64 (dgl (y) 3 : Nat), .int .u64 (dgl (y) 4 : Nat), .int .u64 (dgl (y) 5 : Nat), .int .u64 (dgl (y) 6 : Nat), .int .u64 (dgl (y) 7 : Nat)]] w fun e w' => e = .returned (.int .i64 k) ∧ Below w.heap.size w w' := by
  have HS := hide (twSt_start x y w 24 24)
  have hw1 : IntKind.i64.wrap (2 * (j : Int)) = (d2 : Int) := by rw [IntKind.wrap_i64]; omega
  have hw2 : IntKind.i64.wrap (248 - (d2 : Int)) = (q2 : Int) := by rw [IntKind.wrap_i64]; omega
  clear hd2 hq2
  go_enter Try.func51, Try.ntmps51
  go_upto_region 1 with fail
  refine wp_gen (fun W => TwSt x y w W) ?_ ?_
  · exact HS.out
  clear HS
  rintro W1 h1
  have HS := hide h1
  clear h1
  refine wp_region_grow 16 [(10, .val (.int .i64 (j : Nat))), (11, .val (.agg #[.int .u64 (dgl (x) 0 : Nat), .int .u64 (dgl (x) 1 : Nat), .int .u64 (dgl (x) 2 : Nat), .int .u64 (dgl (x) 3 : Nat), .int .u64 (dgl (x) 4 : Nat), .int .u64 (dgl (x) 5 : Nat), .int .u64 (dgl (x) 6 : Nat), .int .u64 (dgl (x) 7 : Nat)])), (12, .val (.agg #[.int .u64 (dgl (a) 0 : Nat), .int .u64 (dgl (a) 1 : Nat), .int .u64 (dgl (a) 2 : Nat), .int .u64 (dgl (a) 3 : Nat), .int .u64 (dgl (a) 4 : Nat), .int .u64 (dgl (a) 5 : Nat), .int .u64 (dgl (a) 6 : Nat), .int .u64 (dgl (a) 7 : Nat)])), (13, .val (.int .i64 s)), (14, .val (.agg #[.int .u64 (dgl (y) 0 : Nat), .int .u64 (dgl (y) 1 : Nat), .int .u64 (dgl (y) 2 : Nat), .int .u64 (dgl (y) 3 : Nat), .int .u64 (dgl (y) 4 : Nat), .int .u64 (dgl (y) 5 : Nat), .int .u64 (dgl (y) 6 : Nat), .int .u64 (dgl (y) 7 : Nat)])), (15, .val (.int .i64 (j : Nat))), (16, .val (.int .i64 (d2 : Nat))), (17, .val (.int .i64 (q2 : Nat))), (18, .val (.agg #[.int .u64 (dgl (b) 0 : Nat), .int .u64 (dgl (b) 1 : Nat), .int .u64 (dgl (b) 2 : Nat), .int .u64 (dgl (b) 3 : Nat), .int .u64 (dgl (b) 4 : Nat), .int .u64 (dgl (b) 5 : Nat), .int .u64 (dgl (b) 6 : Nat), .int .u64 (dgl (b) 7 : Nat)])), (19, .val (.int .i64 z)), (20, .val (.tuple #[.int .i64 k, .bool true])), (9, .val (.tuple #[.int .i64 k, .bool true])), (21, .val (.int .i64 k)), (22, .val (.bool true)), (7, .val (.int .i64 k)), (8, .val (.bool true))]
    (fun W => TwSt x y w W) mixedOk (by kernel_rfl) (by kernel_rfl) (HS.out.below (Below.refl _ _).drew) (fun W W' h hb => h.below hb) ?_ ?_
  · refine gSt (gStep_run rfl (gRun_move 0 10 (.inl rfl) rfl (by decide +kernel) (fun v w h => h))) ?_
    refine gSt (gStep_run rfl ?_) ?_
    · intro ρ W hC hc hf hL
      have e4 : ρ (.tmp 4) = .pointer (some ⟨w.heap.size, 0, none⟩) := hL 4 (by decide +kernel)
      have hl := hC.la.1
      simp [go_sem, hc, hf, e4, hl]
      exact ⟨Below.refl _ _, rfl⟩
    refine gSt (gStep_run rfl ?_) ?_
    · intro ρ W hC hc hf hL
      have e11 : ρ (.tmp 11) = .agg #[.int .u64 (dgl (x) 0 : Nat), .int .u64 (dgl (x) 1 : Nat), .int .u64 (dgl (x) 2 : Nat), .int .u64 (dgl (x) 3 : Nat), .int .u64 (dgl (x) 4 : Nat), .int .u64 (dgl (x) 5 : Nat), .int .u64 (dgl (x) 6 : Nat), .int .u64 (dgl (x) 7 : Nat)] := hL 11 (by decide +kernel)
      simp [go_sem, hc, hf, e11]
      refine (HS1.out W).mono ?_
      rintro e w' ⟨rfl, hb⟩
      exact ⟨_, rfl, by first | exact hb | (subst hb; exact Below.refl _ _), rfl⟩
    refine gSt (gStep_run rfl ?_) ?_
    · intro ρ W hC hc hf hL
      have e12 : ρ (.tmp 12) = .agg #[.int .u64 (dgl (a) 0 : Nat), .int .u64 (dgl (a) 1 : Nat), .int .u64 (dgl (a) 2 : Nat), .int .u64 (dgl (a) 3 : Nat), .int .u64 (dgl (a) 4 : Nat), .int .u64 (dgl (a) 5 : Nat), .int .u64 (dgl (a) 6 : Nat), .int .u64 (dgl (a) 7 : Nat)] := hL 12 (by decide +kernel)
      simp [go_sem, hc, hf, e12]
      refine (HW1.out W).mono ?_
      rintro e w' ⟨rfl, hb⟩
      exact ⟨_, rfl, by first | exact hb | (subst hb; exact Below.refl _ _), rfl⟩
    refine gSt (gStep_run rfl ?_) ?_
    · intro ρ W hC hc hf hL
      have e5 : ρ (.tmp 5) = .pointer (some ⟨w.heap.size + 1, 0, none⟩) := hL 5 (by decide +kernel)
      have hl := hC.lb.1
      simp [go_sem, hc, hf, e5, hl]
      exact ⟨Below.refl _ _, rfl⟩
    refine gSt (gStep_run rfl (gRun_move 0 15 (.inl rfl) rfl (by decide +kernel) (fun v w h => h))) ?_
    refine gSt (gStep_run rfl ?_) ?_
    · intro ρ W hC hc hf hL
      have e15 : ρ (.tmp 15) = .int .i64 (j : Nat) := hL 15 (by decide +kernel)
      simp [go_sem, hc, hf, e15, hw1]
      exact ⟨Below.refl _ _, rfl⟩
    refine gSt (gStep_run rfl ?_) ?_
    · intro ρ W hC hc hf hL
      have e16 : ρ (.tmp 16) = .int .i64 (d2 : Nat) := hL 16 (by decide +kernel)
      simp [go_sem, hc, hf, e16, hw2]
      exact ⟨Below.refl _ _, rfl⟩
    refine gSt (gStep_run rfl ?_) ?_
    · intro ρ W hC hc hf hL
      have e14 : ρ (.tmp 14) = .agg #[.int .u64 (dgl (y) 0 : Nat), .int .u64 (dgl (y) 1 : Nat), .int .u64 (dgl (y) 2 : Nat), .int .u64 (dgl (y) 3 : Nat), .int .u64 (dgl (y) 4 : Nat), .int .u64 (dgl (y) 5 : Nat), .int .u64 (dgl (y) 6 : Nat), .int .u64 (dgl (y) 7 : Nat)] := hL 14 (by decide +kernel)
      have e17 : ρ (.tmp 17) = .int .i64 (q2 : Nat) := hL 17 (by decide +kernel)
      simp [go_sem, hc, hf, e14, e17]
      refine (HS2.out W).mono ?_
      rintro e w' ⟨rfl, hb⟩
      exact ⟨_, rfl, by first | exact hb | (subst hb; exact Below.refl _ _), rfl⟩
    refine gSt (gStep_run rfl ?_) ?_
    · intro ρ W hC hc hf hL
      have e18 : ρ (.tmp 18) = .agg #[.int .u64 (dgl (b) 0 : Nat), .int .u64 (dgl (b) 1 : Nat), .int .u64 (dgl (b) 2 : Nat), .int .u64 (dgl (b) 3 : Nat), .int .u64 (dgl (b) 4 : Nat), .int .u64 (dgl (b) 5 : Nat), .int .u64 (dgl (b) 6 : Nat), .int .u64 (dgl (b) 7 : Nat)] := hL 18 (by decide +kernel)
      simp [go_sem, hc, hf, e18]
      refine (HW2.out W).mono ?_
      rintro e w' ⟨rfl, hb⟩
      exact ⟨_, rfl, by first | exact hb | (subst hb; exact Below.refl _ _), rfl⟩
    refine gSt (gStep_run rfl ?_) ?_
    · intro ρ W hC hc hf hL
      have e10 : ρ (.tmp 10) = .int .i64 (j : Nat) := hL 10 (by decide +kernel)
      have e13 : ρ (.tmp 13) = .int .i64 s := hL 13 (by decide +kernel)
      have e19 : ρ (.tmp 19) = .int .i64 z := hL 19 (by decide +kernel)
      simp [go_sem, hc, hf, e10, e13, e19]
      refine (HRD.out W).mono ?_
      rintro e w' ⟨rfl, hb⟩
      exact ⟨_, rfl, by first | exact hb | (subst hb; exact Below.refl _ _), rfl⟩
    refine gSt (gStep_run rfl (gRun_move 20 9 (.inl rfl) rfl (by decide +kernel) (fun v w h => h))) ?_
    refine gSt (gStep_run rfl ?_) ?_
    · intro ρ W hC hc hf hL
      have e9 : ρ (.tmp 9) = .tuple #[.int .i64 k, .bool true] := hL 9 (by decide +kernel)
      simp [go_sem, hc, hf, e9]
      exact ⟨Below.refl _ _, rfl⟩
    refine gSt (gStep_run rfl ?_) ?_
    · intro ρ W hC hc hf hL
      have e9 : ρ (.tmp 9) = .tuple #[.int .i64 k, .bool true] := hL 9 (by decide +kernel)
      simp [go_sem, hc, hf, e9]
      exact ⟨Below.refl _ _, rfl⟩
    refine gSt (gStep_run rfl (gRun_move 21 7 (.inr rfl) rfl (by decide +kernel) (fun v w h => h))) ?_
    refine gSt (gStep_run rfl (gRun_move 22 8 (.inr rfl) rfl (by decide +kernel) (fun v w h => h))) ?_
    exact gSt0
  · intro W hC
    refine gFi 10 rfl ?_
    rintro _ rfl
    refine gFi 11 rfl ?_
    rintro _ rfl
    refine gFi 12 rfl ?_
    rintro _ rfl
    refine gFi 13 rfl ?_
    rintro _ rfl
    refine gFi 14 rfl ?_
    rintro _ rfl
    refine gFi 15 rfl ?_
    rintro _ rfl
    refine gFi 16 rfl ?_
    rintro _ rfl
    refine gFi 17 rfl ?_
    rintro _ rfl
    refine gFi 18 rfl ?_
    rintro _ rfl
    refine gFi 19 rfl ?_
    rintro _ rfl
    refine gFi 20 rfl ?_
    rintro _ rfl
    refine gFi 9 rfl ?_
    rintro _ rfl
    refine gFi 21 rfl ?_
    rintro _ rfl
    refine gFi 22 rfl ?_
    rintro _ rfl
    refine gFi 7 rfl ?_
    rintro _ rfl
    refine gFi 8 rfl ?_
    rintro _ rfl
    refine gFi0 ?_
    simp only [List.drop_succ_cons, List.drop_zero, Act.put, List.setIfInBounds_toArray, List.set_cons_succ, List.set_cons_zero]
    have HB := hide hC.bel
    clear hC HS
    go_wp2
    go_ret
    exact ⟨rfl, HB.out⟩
    

theorem nextB_any (j : Nat) (P : Nat) (L : Int) (hj : j ≤ 63) (hP : P < QQ) (hP2 : ((P : Nat) : Int) < ((2 ^ 511 : Nat) : Int)) (h1 : 28 ≤ P / 2 ^ 122) (h2 : P / 2 ^ 122 ≤ 64)
    (hL1 : -((2 ^ 511 : Nat) : Int) ≤ L) (hL2 : L < ((2 ^ 511 : Nat) : Int)) (hy1 : -9223372036854775808 ≤ L / ((2 ^ (248 - 2 * j) : Nat) : Int)) (hy2 : L / ((2 ^ (248 - 2 * j) : Nat) : Int) < 9223372036854775808) (w : World) :
    Calls Try.prog 51 #[.int .i64 (j : Nat), .agg #[.int .u64 (dgl (P) 0 : Nat), .int .u64 (dgl (P) 1 : Nat), .int .u64 (dgl (P) 2 : Nat), .int .u64 (dgl (P) 3 : Nat), .int .u64 (dgl (P) 4 : Nat), .int .u64 (dgl (P) 5 : Nat), .int .u64 (dgl (P) 6 : Nat), .int .u64 (dgl (P) 7 : Nat)], .agg #[.int .u64 (dgl (qz L) 0 : Nat), .int .u64 (dgl (qz L) 1 : Nat), .int .u64 (dgl (qz L) 2 : Nat), .int .u64 (dgl (qz L) 3 : Nat), .int .u64 (dgl (qz L) 4 : Nat), .int .u64 (dgl (qz L) 5 : Nat), .int .u64 (dgl (qz L) 6 : Nat), .int .u64 (dgl (qz L) 7 : Nat)]] w fun e w' => e = .returned (.int .i64 (chN (rbN (j : Nat) ((P / 2 ^ 122 : Nat) : Int)) (L / ((2 ^ (248 - 2 * j) : Nat) : Int)))) ∧ Below w.heap.size w w' := by
  refine nextB_walk j _ _ P (qz L) _ _ ((P / 2 ^ 122 : Nat) : Int) (L / ((2 ^ (248 - 2 * j) : Nat) : Int)) _ hj rfl rfl (hide fun w => ?_) (hide fun w => wholeB_any _ (by omega) (by omega) w) (hide fun w => ?_) (hide fun w => wholeB_any _ hy1 hy2 w) (hide fun w => rootD_yes j _ _ (by omega) (by omega) w) w
  · have h := wideSar_any P 122 hP w
    have e := wq_sar ((P : Nat) : Int) 122 (by decide) (by omega) hP2
    rw [qz_nat hP, show ((P : Nat) : Int) / ((2 ^ 122 : Nat) : Int) = ((P / 2 ^ 122 : Nat) : Int) by rw [Int.natCast_ediv]] at e
    have e2 : roomI 122 = roomI ((122 : Nat) : Int) := rfl
    rw [e2, e] at h
    exact h
  · have h := wideSar_any (qz L) ((248 - 2 * j : Nat) : Int) (qz_lt L) w
    rwa [wq_sar L (248 - 2 * j) (by omega) hL1 hL2] at h

/-- What a step goes by: the root so far, what is left. -/
structure StpB (x y p8 p9 : Nat) (w W : World) : Prop where
  l8 : LiesF W p8 (dgl x)
  f8 : ∀ k, W.frozen? ⟨p8, k, none⟩ = false
  l9 : LiesF W p9 (dgl y)
  f9 : ∀ k, W.frozen? ⟨p9, k, none⟩ = false
  on : Only2 p8 p9 w W
section
variable {x y p8 p9 : Nat} {w W W' : World}
theorem StpB.below (h : StpB x y p8 p9 w W) (hb : Below W.heap.size W W') : StpB x y p8 p9 w W' :=
  ⟨h.l8.below hb, fun k => (hb.frozen (p := ⟨p8, k, none⟩) h.l8.2).trans (h.f8 k), h.l9.below hb, fun k => (hb.frozen (p := ⟨p9, k, none⟩) h.l9.2).trans (h.f9 k), h.on.then hb⟩
theorem StpB.set9 (h : StpB x y p8 p9 w W) (z : Nat) (hne : p8 ≠ p9) : StpB x z p8 p9 w ((((((((W.setCell ⟨p9, 0, none⟩ (.int .u64 (dgl z 0 : Nat))).setCell ⟨p9, 1, none⟩ (.int .u64 (dgl z 1 : Nat))).setCell ⟨p9, 2, none⟩ (.int .u64 (dgl z 2 : Nat))).setCell ⟨p9, 3, none⟩ (.int .u64 (dgl z 3 : Nat))).setCell ⟨p9, 4, none⟩ (.int .u64 (dgl z 4 : Nat))).setCell ⟨p9, 5, none⟩ (.int .u64 (dgl z 5 : Nat))).setCell ⟨p9, 6, none⟩ (.int .u64 (dgl z 6 : Nat))).setCell ⟨p9, 7, none⟩ (.int .u64 (dgl z 7 : Nat))) :=
  ⟨lies_ne h.l8 hne, fun k => by simpa [go_sem] using h.f8 k, set8_same W p9 (dgl z) (dgl y) h.l9, fun k => by simpa [go_sem] using h.f9 k, h.on.setq8 _⟩
theorem StpB.set8 (h : StpB x y p8 p9 w W) (z : Nat) (hne : p8 ≠ p9) : StpB z y p8 p9 w ((((((((W.setCell ⟨p8, 0, none⟩ (.int .u64 (dgl z 0 : Nat))).setCell ⟨p8, 1, none⟩ (.int .u64 (dgl z 1 : Nat))).setCell ⟨p8, 2, none⟩ (.int .u64 (dgl z 2 : Nat))).setCell ⟨p8, 3, none⟩ (.int .u64 (dgl z 3 : Nat))).setCell ⟨p8, 4, none⟩ (.int .u64 (dgl z 4 : Nat))).setCell ⟨p8, 5, none⟩ (.int .u64 (dgl z 5 : Nat))).setCell ⟨p8, 6, none⟩ (.int .u64 (dgl z 6 : Nat))).setCell ⟨p8, 7, none⟩ (.int .u64 (dgl z 7 : Nat))) :=
  ⟨set8_same W p8 (dgl z) (dgl x) h.l8, fun k => by simpa [go_sem] using h.f8 k, lies_ne h.l9 (Ne.symm hne), fun k => by simpa [go_sem] using h.f9 k, h.on.setp8 _⟩
end
theorem StpB.under {x y p8 p9 C : Nat} {w W W' : World} (h : StpB x y p8 p9 w W) (hb : Below C W W') (h1 : p8 < C) (h2 : p9 < C) (hw : w.heap.size ≤ C) : StpB x y p8 p9 w W' :=
  ⟨lies_box h.l8 hb h1, fun k => (hb.frozen (p := ⟨p8, k, none⟩) h1).trans (h.f8 k), lies_box h.l9 hb h2, fun k => (hb.frozen (p := ⟨p9, k, none⟩) h2).trans (h.f9 k), ⟨hb.os.trans h.on.os, hb.tape.trans h.on.tape, hb.output.trans h.on.output, Nat.le_trans h.on.size hb.size, fun k hk ha hc => (hb.block k (Nat.lt_of_lt_of_le hk hw)).trans (h.on.block k hk ha hc)⟩⟩

set_option maxHeartbeats 8000000 in
theorem stepB_walk (j j63 place x y pw t g u v m r p8 p9 : Nat) (k : Int) (ov : Bool) (hj : j ≤ 63) (hj63 : j63 = 63 - j) (hpl : place = 2 * j63) (hne : p8 ≠ p9)
    (HNX : Hid (∀ w, Calls Try.prog 51 #[.int .i64 (j : Nat), .agg #[.int .u64 (dgl (x) 0 : Nat), .int .u64 (dgl (x) 1 : Nat), .int .u64 (dgl (x) 2 : Nat), .int .u64 (dgl (x) 3 : Nat), .int .u64 (dgl (x) 4 : Nat), .int .u64 (dgl (x) 5 : Nat), .int .u64 (dgl (x) 6 : Nat), .int .u64 (dgl (x) 7 : Nat)], .agg #[.int .u64 (dgl (y) 0 : Nat), .int .u64 (dgl (y) 1 : Nat), .int .u64 (dgl (y) 2 : Nat), .int .u64 (dgl (y) 3 : Nat), .int .u64 (dgl (y) 4 : Nat), .int .u64 (dgl (y) 5 : Nat), .int .u64 (dgl (y) 6 : Nat), .int .u64 (dgl (y) 7 : Nat)]] w fun e w' => e = .returned (.int .i64 k) ∧ Below w.heap.size w w'))
    (HPW : Hid (∀ w, Calls Try.prog 49 #[.int .i64 (place : Nat)] w fun e w' => e = .returned (.agg #[.int .u64 (dgl (pw) 0 : Nat), .int .u64 (dgl (pw) 1 : Nat), .int .u64 (dgl (pw) 2 : Nat), .int .u64 (dgl (pw) 3 : Nat), .int .u64 (dgl (pw) 4 : Nat), .int .u64 (dgl (pw) 5 : Nat), .int .u64 (dgl (pw) 6 : Nat), .int .u64 (dgl (pw) 7 : Nat)]) ∧ Below w.heap.size w w'))
    (HTM : Hid (∀ w, Calls Try.prog 53 #[.agg #[.int .u64 (dgl (pw) 0 : Nat), .int .u64 (dgl (pw) 1 : Nat), .int .u64 (dgl (pw) 2 : Nat), .int .u64 (dgl (pw) 3 : Nat), .int .u64 (dgl (pw) 4 : Nat), .int .u64 (dgl (pw) 5 : Nat), .int .u64 (dgl (pw) 6 : Nat), .int .u64 (dgl (pw) 7 : Nat)], .int .i64 k] w fun e w' => e = .returned (.agg #[.int .u64 (dgl (t) 0 : Nat), .int .u64 (dgl (t) 1 : Nat), .int .u64 (dgl (t) 2 : Nat), .int .u64 (dgl (t) 3 : Nat), .int .u64 (dgl (t) 4 : Nat), .int .u64 (dgl (t) 5 : Nat), .int .u64 (dgl (t) 6 : Nat), .int .u64 (dgl (t) 7 : Nat)]) ∧ Below w.heap.size w w'))
    (HSU : Hid (∀ v w, RdW w v [x, t] → Calls Try.prog 52 #[v] w fun e w' => e = .returned (.agg #[.int .u64 (dgl (g) 0 : Nat), .int .u64 (dgl (g) 1 : Nat), .int .u64 (dgl (g) 2 : Nat), .int .u64 (dgl (g) 3 : Nat), .int .u64 (dgl (g) 4 : Nat), .int .u64 (dgl (g) 5 : Nat), .int .u64 (dgl (g) 6 : Nat), .int .u64 (dgl (g) 7 : Nat)]) ∧ Below w.heap.size w w'))
    (HSU2 : Hid (∀ v w, RdW w v [x, g] → Calls Try.prog 52 #[v] w fun e w' => e = .returned (.agg #[.int .u64 (dgl (u) 0 : Nat), .int .u64 (dgl (u) 1 : Nat), .int .u64 (dgl (u) 2 : Nat), .int .u64 (dgl (u) 3 : Nat), .int .u64 (dgl (u) 4 : Nat), .int .u64 (dgl (u) 5 : Nat), .int .u64 (dgl (u) 6 : Nat), .int .u64 (dgl (u) 7 : Nat)]) ∧ Below w.heap.size w w'))
    (HSH : Hid (∀ w, Calls Try.prog 44 #[.agg #[.int .u64 (dgl (u) 0 : Nat), .int .u64 (dgl (u) 1 : Nat), .int .u64 (dgl (u) 2 : Nat), .int .u64 (dgl (u) 3 : Nat), .int .u64 (dgl (u) 4 : Nat), .int .u64 (dgl (u) 5 : Nat), .int .u64 (dgl (u) 6 : Nat), .int .u64 (dgl (u) 7 : Nat)], .int .i64 (place : Nat)] w fun e w' => e = .returned (.agg #[.int .u64 (dgl (v) 0 : Nat), .int .u64 (dgl (v) 1 : Nat), .int .u64 (dgl (v) 2 : Nat), .int .u64 (dgl (v) 3 : Nat), .int .u64 (dgl (v) 4 : Nat), .int .u64 (dgl (v) 5 : Nat), .int .u64 (dgl (v) 6 : Nat), .int .u64 (dgl (v) 7 : Nat)]) ∧ Below w.heap.size w w'))
    (HT2 : Hid (∀ w, Calls Try.prog 53 #[.agg #[.int .u64 (dgl (v) 0 : Nat), .int .u64 (dgl (v) 1 : Nat), .int .u64 (dgl (v) 2 : Nat), .int .u64 (dgl (v) 3 : Nat), .int .u64 (dgl (v) 4 : Nat), .int .u64 (dgl (v) 5 : Nat), .int .u64 (dgl (v) 6 : Nat), .int .u64 (dgl (v) 7 : Nat)], .int .i64 k] w fun e w' => e = .returned (.agg #[.int .u64 (dgl (m) 0 : Nat), .int .u64 (dgl (m) 1 : Nat), .int .u64 (dgl (m) 2 : Nat), .int .u64 (dgl (m) 3 : Nat), .int .u64 (dgl (m) 4 : Nat), .int .u64 (dgl (m) 5 : Nat), .int .u64 (dgl (m) 6 : Nat), .int .u64 (dgl (m) 7 : Nat)]) ∧ Below w.heap.size w w'))
    (HSB : Hid (∀ w, Calls Try.prog 29 #[.agg #[.int .u64 (dgl (y) 0 : Nat), .int .u64 (dgl (y) 1 : Nat), .int .u64 (dgl (y) 2 : Nat), .int .u64 (dgl (y) 3 : Nat), .int .u64 (dgl (y) 4 : Nat), .int .u64 (dgl (y) 5 : Nat), .int .u64 (dgl (y) 6 : Nat), .int .u64 (dgl (y) 7 : Nat)], .agg #[.int .u64 (dgl (m) 0 : Nat), .int .u64 (dgl (m) 1 : Nat), .int .u64 (dgl (m) 2 : Nat), .int .u64 (dgl (m) 3 : Nat), .int .u64 (dgl (m) 4 : Nat), .int .u64 (dgl (m) 5 : Nat), .int .u64 (dgl (m) 6 : Nat), .int .u64 (dgl (m) 7 : Nat)]] w fun e w' => e = .returned (.tuple #[.agg #[.int .u64 (dgl (r) 0 : Nat), .int .u64 (dgl (r) 1 : Nat), .int .u64 (dgl (r) 2 : Nat), .int .u64 (dgl (r) 3 : Nat), .int .u64 (dgl (r) 4 : Nat), .int .u64 (dgl (r) 5 : Nat), .int .u64 (dgl (r) 6 : Nat), .int .u64 (dgl (r) 7 : Nat)], .bool ov]) ∧ Below w.heap.size w w')) (w : World) (hS : StpB x y p8 p9 w w) :
    Calls Try.prog 50 #[.int .i64 (j : Nat), .pointer (some ⟨p8, 0, none⟩), .pointer (some ⟨p9, 0, none⟩)] w fun e w' => e = .returned (.int .i64 k) ∧ StpB g r p8 p9 w w' := by
  have HS := hide hS
  have HN := hide hne
  have hw1 : IntKind.i64.wrap (63 - (j : Int)) = (j63 : Int) := by rw [IntKind.wrap_i64]; omega
  have hw2 : IntKind.i64.wrap (2 * (j63 : Int)) = ((place : Nat) : Int) := by rw [IntKind.wrap_i64]; omega
  clear hj63 hpl
  have ha := hS.l8.1
  have hb := hS.l9.1
  clear hS hne
  go_enter Try.func50, Try.ntmps50
  go_wp2_with fail
  refine (HNX.out _).mono ?_
  rintro e w1 ⟨rfl, hb1⟩
  replace HS := hide (HS.out.below hb1)
  have HW1 := hide hb1.size
  clear hb1 ha hb hw1 hw2 HNX
  go_upto_region 3 with fail
  have HBS := hide (show p8 < w1.heap.size ∧ p9 < w1.heap.size from ⟨HS.out.l8.2, HS.out.l9.2⟩)
  obtain ⟨base, hbs⟩ : ∃ base, w1.heap.size = base := ⟨_, rfl⟩
  replace HS := hide (show StpB x y p8 p9 w w1 ∧ base ≤ w1.heap.size from ⟨HS.out, Nat.le_of_eq hbs.symm⟩)
  rw [hbs] at HBS HW1
  clear hbs
  refine wp_region_grow 8 [(16, .val (.agg #[.int .u64 (dgl (x) 0 : Nat), .int .u64 (dgl (x) 1 : Nat), .int .u64 (dgl (x) 2 : Nat), .int .u64 (dgl (x) 3 : Nat), .int .u64 (dgl (x) 4 : Nat), .int .u64 (dgl (x) 5 : Nat), .int .u64 (dgl (x) 6 : Nat), .int .u64 (dgl (x) 7 : Nat)])), (17, .val (.int .i64 (place : Nat))), (18, .val (.agg #[.int .u64 (dgl (pw) 0 : Nat), .int .u64 (dgl (pw) 1 : Nat), .int .u64 (dgl (pw) 2 : Nat), .int .u64 (dgl (pw) 3 : Nat), .int .u64 (dgl (pw) 4 : Nat), .int .u64 (dgl (pw) 5 : Nat), .int .u64 (dgl (pw) 6 : Nat), .int .u64 (dgl (pw) 7 : Nat)])), (19, .val (.int .i64 k)), (20, .val (.agg #[.int .u64 (dgl (t) 0 : Nat), .int .u64 (dgl (t) 1 : Nat), .int .u64 (dgl (t) 2 : Nat), .int .u64 (dgl (t) 3 : Nat), .int .u64 (dgl (t) 4 : Nat), .int .u64 (dgl (t) 5 : Nat), .int .u64 (dgl (t) 6 : Nat), .int .u64 (dgl (t) 7 : Nat)])), (21, .wides p8 [x, t]), (22, .val (.agg #[.int .u64 (dgl (g) 0 : Nat), .int .u64 (dgl (g) 1 : Nat), .int .u64 (dgl (g) 2 : Nat), .int .u64 (dgl (g) 3 : Nat), .int .u64 (dgl (g) 4 : Nat), .int .u64 (dgl (g) 5 : Nat), .int .u64 (dgl (g) 6 : Nat), .int .u64 (dgl (g) 7 : Nat)])), (7, .box base (fun _ => 0))]
    (fun W => StpB x y p8 p9 w W ∧ base ≤ W.heap.size) mixedOk (by kernel_rfl) (by kernel_rfl) (⟨HS.out.1.below (Below.refl _ _).drew, HS.out.2⟩) (fun W W' h hb => ⟨h.1.below hb, Nat.le_trans h.2 hb.size⟩) ?_ ?_
  · refine gSt (gStep_run rfl ?_) ?_
    · intro ρ W hC hc hf hL
      have e1 : ρ (.tmp 1) = .pointer (some ⟨p8, 0, none⟩) := hL 1 (by decide +kernel)
      have hl := hC.1.l8.1
      simp [go_sem, hc, hf, e1, hl]
      exact ⟨Below.refl _ _, rfl⟩
    refine gSt (gStep_run rfl (gRun_move 5 17 (.inl rfl) rfl (by decide +kernel) (fun v w h => h))) ?_
    refine gSt (gStep_run rfl ?_) ?_
    · intro ρ W hC hc hf hL
      have e17 : ρ (.tmp 17) = .int .i64 (place : Nat) := hL 17 (by decide +kernel)
      simp [go_sem, hc, hf, e17]
      refine (HPW.out W).mono ?_
      rintro e w' ⟨rfl, hb⟩
      exact ⟨_, rfl, by first | exact hb | (subst hb; exact Below.refl _ _), rfl⟩
    refine gSt (gStep_run rfl (gRun_move 6 19 (.inl rfl) rfl (by decide +kernel) (fun v w h => h))) ?_
    refine gSt (gStep_run rfl ?_) ?_
    · intro ρ W hC hc hf hL
      have e18 : ρ (.tmp 18) = .agg #[.int .u64 (dgl (pw) 0 : Nat), .int .u64 (dgl (pw) 1 : Nat), .int .u64 (dgl (pw) 2 : Nat), .int .u64 (dgl (pw) 3 : Nat), .int .u64 (dgl (pw) 4 : Nat), .int .u64 (dgl (pw) 5 : Nat), .int .u64 (dgl (pw) 6 : Nat), .int .u64 (dgl (pw) 7 : Nat)] := hL 18 (by decide +kernel)
      have e19 : ρ (.tmp 19) = .int .i64 k := hL 19 (by decide +kernel)
      simp [go_sem, hc, hf, e18, e19]
      refine (HTM.out W).mono ?_
      rintro e w' ⟨rfl, hb⟩
      exact ⟨_, rfl, by first | exact hb | (subst hb; exact Below.refl _ _), rfl⟩
    refine gSt (gStep_run rfl ?_) ?_
    · intro ρ W hC hc hf hL
      have e16 : ρ (.tmp 16) = .agg #[.int .u64 (dgl (x) 0 : Nat), .int .u64 (dgl (x) 1 : Nat), .int .u64 (dgl (x) 2 : Nat), .int .u64 (dgl (x) 3 : Nat), .int .u64 (dgl (x) 4 : Nat), .int .u64 (dgl (x) 5 : Nat), .int .u64 (dgl (x) 6 : Nat), .int .u64 (dgl (x) 7 : Nat)] := hL 16 (by decide +kernel)
      have e20 : ρ (.tmp 20) = .agg #[.int .u64 (dgl (t) 0 : Nat), .int .u64 (dgl (t) 1 : Nat), .int .u64 (dgl (t) 2 : Nat), .int .u64 (dgl (t) 3 : Nat), .int .u64 (dgl (t) 4 : Nat), .int .u64 (dgl (t) 5 : Nat), .int .u64 (dgl (t) 6 : Nat), .int .u64 (dgl (t) 7 : Nat)] := hL 20 (by decide +kernel)
      simp [go_sem, hc, hf, e16, e20]
      exact ⟨below_allocs _ _, _, rfl, hC.1.l8.2, by simp, fun i j hi hj => wides2_new W x t _ i j hi hj⟩
    refine gSt (gStep_run rfl ?_) ?_
    · intro ρ W hC hc hf hL
      have b21 := hL 21 (by decide +kernel)
      simp [go_sem, hc, hf]
      refine (HSU.out _ _ (wides_rd (by simp) b21)).mono ?_
      rintro e w' ⟨rfl, hb⟩
      exact ⟨_, rfl, by first | exact hb | (subst hb; exact Below.refl _ _), rfl⟩
    refine gSt (gStep_run rfl ?_) ?_
    · intro ρ W hC hc hf hL
      simp [go_sem, hc, hf]
      exact ⟨below_allocs _ _, _, rfl, hC.2, liesF_new _ (fun _ => 0) _, fun i => by simp [go_sem]⟩
    exact gSt0
  · intro W hC
    refine gFi 16 rfl ?_
    rintro _ rfl
    refine gFi 17 rfl ?_
    rintro _ rfl
    refine gFi 18 rfl ?_
    rintro _ rfl
    refine gFi 19 rfl ?_
    rintro _ rfl
    refine gFi 20 rfl ?_
    rintro _ rfl
    refine gFi 21 rfl ?_
    rintro u21 b21
    refine gFi 22 rfl ?_
    rintro _ rfl
    refine gFi 7 rfl ?_
    rintro _ ⟨p7, rfl, q7, l7, z7⟩
    refine gFi0 ?_
    simp only [List.drop_succ_cons, List.drop_zero, Act.put, List.setIfInBounds_toArray, List.set_cons_succ, List.set_cons_zero]
    have HS2 := hide (show StpB x y p8 p9 w W ∧ LiesF W p7 (fun _ => 0) ∧ (∀ i, W.frozen? ⟨p7, i, none⟩ = false) from ⟨hC.1, l7, z7⟩)
    have HP7 := hide (show base ≤ p7 from q7)
    have h7 := l7.1
    have hl7 := l7.2
    have hf7 := z7
    clear hC HS b21 l7 z7 q7
    have hg7 : p8 < p7 ∧ p9 < p7 ∧ w.heap.size ≤ p7 := by have := HBS.out; have := HP7.out; have := HW1.out; omega
    go_upto_region 4 with fail
    refine wp_gen (fun V => StpB x y p8 p9 w V ∧ LiesF V p7 (dgl g)) ⟨HS2.out.1.under (below_set8 (Below.refl p7 W) p7 (Nat.le_refl _) _ _ _ _ _ _ _ _) hg7.1 hg7.2.1 hg7.2.2, set8_same W p7 (dgl g) (fun _ => 0) HS2.out.2.1⟩ ?_
    clear HS2 h7 hl7 hf7
    rintro W4 h4
    have HS := hide h4
    have ha := h4.1.l8.1
    have hb := h4.2.1
    clear h4
    go_wp2_with fail
    refine (HSU2.out _ _ ?_).mono ?_
    · have hn := wides2_new W4 x g 24
      exact wides_rd (r := 0) (by simp) ⟨_, rfl, by have := HS.out.1.l8.2; omega, by simp, fun i j hi hj => hn i j hi hj⟩
    rintro e w5 ⟨rfl, hb5⟩
    replace HS := hide (show StpB x y p8 p9 w w5 ∧ LiesF w5 p7 (dgl g) from ⟨HS.out.1.below (below_trans (below_allocs _ _) hb5), HS.out.2.below (below_trans (below_allocs _ _) hb5)⟩)
    clear hb5 ha hb
    go_wp2_with fail
    refine (HSH.out _).mono ?_
    rintro e w6 ⟨rfl, hb6⟩
    replace HS := hide (show StpB x y p8 p9 w w6 ∧ LiesF w6 p7 (dgl g) from ⟨HS.out.1.below hb6, HS.out.2.below hb6⟩)
    clear hb6
    go_wp2_with fail
    refine (HT2.out _).mono ?_
    rintro e w7 ⟨rfl, hb7⟩
    replace HS := hide (show StpB x y p8 p9 w w7 ∧ LiesF w7 p7 (dgl g) from ⟨HS.out.1.below hb7, HS.out.2.below hb7⟩)
    clear hb7
    go_upto_region 5 with fail
    refine wp_gen (fun V => StpB x y p8 p9 w V ∧ LiesF V p7 (dgl g) ∧ LiesF V w7.heap.size (dgl m)) ⟨HS.out.1.below (below_allocs _ _), HS.out.2.below (below_allocs _ _), liesF_new w7 (dgl m) _⟩ ?_
    clear HS
    generalize w7.heap.size = q8 at *
    rintro W5 h5
    have HS := hide h5
    have ha := h5.1.l9.1
    have hb := h5.2.2.1
    clear h5
    go_wp2_with fail
    refine (HSB.out _).mono ?_
    rintro e w8 ⟨rfl, hb8⟩
    replace HS := hide (show StpB x y p8 p9 w w8 ∧ LiesF w8 p7 (dgl g) from ⟨HS.out.1.below hb8, HS.out.2.1.below hb8⟩)
    clear hb8 ha hb
    have h9 := HS.out.1.l9.1
    have hl9 := HS.out.1.l9.2
    have hf9 := HS.out.1.f9
    have hne := HN.out
    go_upto_region 6 with fail
    refine wp_gen (fun V => StpB x r p8 p9 w V ∧ LiesF V p7 (dgl g)) ⟨HS.out.1.set9 r hne, lies_ne HS.out.2 (by omega)⟩ ?_
    clear HS h9 hl9 hf9
    rintro W6 h6
    have h7 := h6.2.1
    have h8 := h6.1.l8.1
    have hl8 := h6.1.l8.2
    have hf8 := h6.1.f8
    have hst := h6.1.set8 g hne
    clear h6
    go_wp2
    go_ret
    exact ⟨rfl, hst⟩
    

end Go.Proofs.Ytbngaajhdaciaaa

/- Contracts: srtroot.walk, over any function that is told the digits. -/
set_option linter.unusedVariables false
set_option linter.unusedSimpArgs false
set_option maxRecDepth 8000
namespace Go.Proofs.Ytbngaajhdaciaaa
open Go.RowKit Plain

/-- The two results of walk. -/
structure R3i (w W : World) : Prop where
  l1 : LiesF W (w.heap.size + 1) (fun _ => 0)
  f1 : ∀ k, W.frozen? ⟨w.heap.size + 1, k, none⟩ = false
  l2 : LiesF W (w.heap.size + 2) (fun _ => 0)
  f2 : ∀ k, W.frozen? ⟨w.heap.size + 2, k, none⟩ = false
theorem R3i.under {w W W' : World} (h : R3i w W) {C : Nat} (hb : Below C W W') (hc : w.heap.size + 2 < C) : R3i w W' :=
  ⟨lies_box h.l1 hb (by omega), fun k => (hb.frozen (p := ⟨w.heap.size + 1, k, none⟩) (show w.heap.size + 1 < C by omega)).trans (h.f1 k), lies_box h.l2 hb hc, fun k => (hb.frozen (p := ⟨w.heap.size + 2, k, none⟩) hc).trans (h.f2 k)⟩
theorem R3i.below {w W W' : World} (h : R3i w W) (hb : Below W.heap.size W W') : R3i w W' := h.under hb h.l2.2
/-- Two results, in a world that differs from another one in the blocks from B on, up to C, alone. -/
structure R3St (B C r1 r2 x y : Nat) (w W : World) : Prop where
  lx : LiesF W r1 (dgl x)
  fx : ∀ i, W.frozen? ⟨r1, i, none⟩ = false
  ly : LiesF W r2 (dgl y)
  fy : ∀ i, W.frozen? ⟨r2, i, none⟩ = false
  ap : ApartC B C w W
  o1 : B ≤ r1
  o2 : r1 < r2
  oc : r2 < C
section
variable {B C r1 r2 x y : Nat} {w W W' : World}
theorem R3St.below (h : R3St B C r1 r2 x y w W) (hb : Below W.heap.size W W') : R3St B C r1 r2 x y w W' :=
  ⟨h.lx.below hb, fun i => (hb.frozen (p := ⟨r1, i, none⟩) h.lx.2).trans (h.fx i), h.ly.below hb, fun i => (hb.frozen (p := ⟨r2, i, none⟩) h.ly.2).trans (h.fy i), h.ap.then hb, h.o1, h.o2, h.oc⟩
theorem ApartC.apart {w2 : World} (h : ApartC B C w W) (hb : ApartC B C W w2) : ApartC B C w w2 :=
  ⟨hb.os.trans h.os, hb.tape.trans h.tape, hb.output.trans h.output, Nat.le_trans h.size hb.size, fun k hk ho => (hb.block k (Nat.lt_of_lt_of_le hk h.size) ho).trans (h.block k hk ho)⟩
theorem R3St.set1 (h : R3St B C r1 r2 x y w W) (z : Nat) : R3St B C r1 r2 z y w ((((((((W.setCell ⟨r1, 0, none⟩ (.int .u64 (dgl z 0 : Nat))).setCell ⟨r1, 1, none⟩ (.int .u64 (dgl z 1 : Nat))).setCell ⟨r1, 2, none⟩ (.int .u64 (dgl z 2 : Nat))).setCell ⟨r1, 3, none⟩ (.int .u64 (dgl z 3 : Nat))).setCell ⟨r1, 4, none⟩ (.int .u64 (dgl z 4 : Nat))).setCell ⟨r1, 5, none⟩ (.int .u64 (dgl z 5 : Nat))).setCell ⟨r1, 6, none⟩ (.int .u64 (dgl z 6 : Nat))).setCell ⟨r1, 7, none⟩ (.int .u64 (dgl z 7 : Nat))) := by
  have h1 := h.o1
  have h2 := h.o2
  have h3 := h.oc
  exact ⟨set8_same W r1 (dgl z) (dgl x) h.lx, fun i => by simpa [go_sem] using h.fx i, lies_ne h.ly (by omega), fun i => by simpa [go_sem] using h.fy i, h.ap.apart (apartC_set8 W r1 h1 (by omega) (dgl z)), h1, h2, h3⟩
theorem R3St.set2 (h : R3St B C r1 r2 x y w W) (z : Nat) : R3St B C r1 r2 x z w ((((((((W.setCell ⟨r2, 0, none⟩ (.int .u64 (dgl z 0 : Nat))).setCell ⟨r2, 1, none⟩ (.int .u64 (dgl z 1 : Nat))).setCell ⟨r2, 2, none⟩ (.int .u64 (dgl z 2 : Nat))).setCell ⟨r2, 3, none⟩ (.int .u64 (dgl z 3 : Nat))).setCell ⟨r2, 4, none⟩ (.int .u64 (dgl z 4 : Nat))).setCell ⟨r2, 5, none⟩ (.int .u64 (dgl z 5 : Nat))).setCell ⟨r2, 6, none⟩ (.int .u64 (dgl z 6 : Nat))).setCell ⟨r2, 7, none⟩ (.int .u64 (dgl z 7 : Nat))) := by
  have h1 := h.o1
  have h2 := h.o2
  have h3 := h.oc
  exact ⟨lies_ne h.lx (by omega), fun i => by simpa [go_sem] using h.fx i, set8_same W r2 (dgl z) (dgl y) h.ly, fun i => by simpa [go_sem] using h.fy i, h.ap.apart (apartC_set8 W r2 (by omega) h3 (dgl z)), h1, h2, h3⟩
end
theorem apartC_only2 {B C p q : Nat} {w w' : World} (h : Only2 p q w w') (h1 : B ≤ p) (h2 : p < C) (h3 : B ≤ q) (h4 : q < C) : ApartC B C w w' := ⟨h.os, h.tape, h.output, h.size, fun k hk ho => h.block k hk (by omega) (by omega)⟩
/-- What walk goes by: its results, the root so far, what is left. -/
structure WkB (x y p8 p9 : Nat) (w W : World) : Prop where
  l1 : LiesF W (w.heap.size + 1) (fun _ => 0)
  f1 : ∀ k, W.frozen? ⟨w.heap.size + 1, k, none⟩ = false
  l2 : LiesF W (w.heap.size + 2) (fun _ => 0)
  f2 : ∀ k, W.frozen? ⟨w.heap.size + 2, k, none⟩ = false
  l8 : LiesF W p8 (dgl x)
  f8 : ∀ k, W.frozen? ⟨p8, k, none⟩ = false
  l9 : LiesF W p9 (dgl y)
  f9 : ∀ k, W.frozen? ⟨p9, k, none⟩ = false
  o8 : w.heap.size + 3 ≤ p8
  o9 : p8 < p9
section
variable {x y p8 p9 : Nat} {w W W' : World}
theorem WkB.stp (h : WkB x y p8 p9 w W) : StpB x y p8 p9 W W := ⟨h.l8, h.f8, h.l9, h.f9, rfl, rfl, rfl, Nat.le_refl _, fun k hk _ _ => rfl⟩
theorem WkB.step (h : WkB x y p8 p9 w W) {x2 y2 : Nat} (hs : StpB x2 y2 p8 p9 W W') : WkB x2 y2 p8 p9 w W' := by
  have ho := h.o8
  have h9 := h.o9
  exact ⟨hs.on.lies h.l1 (by omega) (by omega), fun k => (hs.on.frozen h.l1.2 (by omega) (by omega)).trans (h.f1 k), hs.on.lies h.l2 (by omega) (by omega), fun k => (hs.on.frozen h.l2.2 (by omega) (by omega)).trans (h.f2 k), hs.l8, hs.f8, hs.l9, hs.f9, ho, h9⟩
theorem WkB.kept (h : WkB x y p8 p9 w W) (hb : KeptC w.heap.size (p9 + 1) W W') : WkB x y p8 p9 w W' := by
  have ho := h.o8
  have h9 := h.o9
  exact ⟨hb.lies h.l1 (by omega) (by omega), fun k => (hb.frozen (by omega) (by omega)).trans (h.f1 k), hb.lies h.l2 (by omega) (by omega), fun k => (hb.frozen (by omega) (by omega)).trans (h.f2 k), hb.lies h.l8 (by omega) (by omega), fun k => (hb.frozen (by omega) (by omega)).trans (h.f8 k), hb.lies h.l9 (by omega) (by omega), fun k => (hb.frozen (by omega) (by omega)).trans (h.f9 k), ho, h9⟩
end

set_option maxHeartbeats 8000000 in
theorem walkB_walk (fid : Nat) (caps : Array Value) (X q q2 y : Nat) (ov : Bool) (P : Nat → Nat) (L dj : Nat → Int) (steps : Nat) (I : Nat → Nat → World → Prop) (w : World) (hst : steps ≤ 64)
    (hq0 : Hid (q = P 0)) (hy0 : Hid (y = qz (L 0)))
    (HP1 : Hid (∀ w, Calls Try.prog 49 #[.int .i64 128] w fun e w' => e = .returned (.agg #[.int .u64 (dgl (q) 0 : Nat), .int .u64 (dgl (q) 1 : Nat), .int .u64 (dgl (q) 2 : Nat), .int .u64 (dgl (q) 3 : Nat), .int .u64 (dgl (q) 4 : Nat), .int .u64 (dgl (q) 5 : Nat), .int .u64 (dgl (q) 6 : Nat), .int .u64 (dgl (q) 7 : Nat)]) ∧ Below w.heap.size w w'))
    (HP2 : Hid (∀ w, Calls Try.prog 49 #[.int .i64 256] w fun e w' => e = .returned (.agg #[.int .u64 (dgl (q2) 0 : Nat), .int .u64 (dgl (q2) 1 : Nat), .int .u64 (dgl (q2) 2 : Nat), .int .u64 (dgl (q2) 3 : Nat), .int .u64 (dgl (q2) 4 : Nat), .int .u64 (dgl (q2) 5 : Nat), .int .u64 (dgl (q2) 6 : Nat), .int .u64 (dgl (q2) 7 : Nat)]) ∧ Below w.heap.size w w'))
    (HSB : Hid (∀ w, Calls Try.prog 29 #[.agg #[.int .u64 (dgl (X) 0 : Nat), .int .u64 (dgl (X) 1 : Nat), .int .u64 (dgl (X) 2 : Nat), .int .u64 (dgl (X) 3 : Nat), .int .u64 (dgl (X) 4 : Nat), .int .u64 (dgl (X) 5 : Nat), .int .u64 (dgl (X) 6 : Nat), .int .u64 (dgl (X) 7 : Nat)], .agg #[.int .u64 (dgl (q2) 0 : Nat), .int .u64 (dgl (q2) 1 : Nat), .int .u64 (dgl (q2) 2 : Nat), .int .u64 (dgl (q2) 3 : Nat), .int .u64 (dgl (q2) 4 : Nat), .int .u64 (dgl (q2) 5 : Nat), .int .u64 (dgl (q2) 6 : Nat), .int .u64 (dgl (q2) 7 : Nat)]] w fun e w' => e = .returned (.tuple #[.agg #[.int .u64 (dgl (y) 0 : Nat), .int .u64 (dgl (y) 1 : Nat), .int .u64 (dgl (y) 2 : Nat), .int .u64 (dgl (y) 3 : Nat), .int .u64 (dgl (y) 4 : Nat), .int .u64 (dgl (y) 5 : Nat), .int .u64 (dgl (y) 6 : Nat), .int .u64 (dgl (y) 7 : Nat)], .bool ov]) ∧ Below w.heap.size w w'))
    (HST : Hid (∀ j, j < 64 → ∀ p8 p9 wr, p8 ≠ p9 → StpB (P j) (qz (L j)) p8 p9 wr wr → Calls Try.prog 50 #[.int .i64 (j : Nat), .pointer (some ⟨p8, 0, none⟩), .pointer (some ⟨p9, 0, none⟩)] wr fun e w' => e = .returned (.int .i64 (dj j)) ∧ StpB (P (j + 1)) (qz (L (j + 1))) p8 p9 wr w'))
    (hent : ∀ args w, (callFunc fid args).run Try.prog w = .ok (.enter fid args) w)
    (HCA : Hid (∀ C j wr, j < 64 → w.heap.size + 3 ≤ C → C ≤ wr.heap.size → I C j wr → Calls Try.prog fid (#[.int .i64 (dj j)] ++ caps) wr fun e w' => e = .returned (.tuple #[]) ∧ I C (j + 1) w' ∧ KeptC w.heap.size C wr w'))
    (HAP : Hid (∀ C j wr wr', I C j wr → ApartC w.heap.size C wr wr' → I C j wr')) (HI0 : Hid (∀ C, w.heap.size + 3 ≤ C → I C 0 w)) :
    Calls Try.prog 26 #[.agg #[.int .u64 (dgl (X) 0 : Nat), .int .u64 (dgl (X) 1 : Nat), .int .u64 (dgl (X) 2 : Nat), .int .u64 (dgl (X) 3 : Nat), .int .u64 (dgl (X) 4 : Nat), .int .u64 (dgl (X) 5 : Nat), .int .u64 (dgl (X) 6 : Nat), .int .u64 (dgl (X) 7 : Nat)], .int .i64 (steps : Nat), .func (.func fid) #[] caps] w fun e w' => e = .returned (.tuple #[.agg #[.int .u64 (dgl (P steps) 0 : Nat), .int .u64 (dgl (P steps) 1 : Nat), .int .u64 (dgl (P steps) 2 : Nat), .int .u64 (dgl (P steps) 3 : Nat), .int .u64 (dgl (P steps) 4 : Nat), .int .u64 (dgl (P steps) 5 : Nat), .int .u64 (dgl (P steps) 6 : Nat), .int .u64 (dgl (P steps) 7 : Nat)], .agg #[.int .u64 (dgl (qz (L steps)) 0 : Nat), .int .u64 (dgl (qz (L steps)) 1 : Nat), .int .u64 (dgl (qz (L steps)) 2 : Nat), .int .u64 (dgl (qz (L steps)) 3 : Nat), .int .u64 (dgl (qz (L steps)) 4 : Nat), .int .u64 (dgl (qz (L steps)) 5 : Nat), .int .u64 (dgl (qz (L steps)) 6 : Nat), .int .u64 (dgl (qz (L steps)) 7 : Nat)]]) ∧ ∃ C, w.heap.size + 3 ≤ C ∧ I C steps w' := by
  have HS0 : Hid (LiesF (((w.alloc (.cells #[.int .u64 (dgl (X) 0 : Nat), .int .u64 (dgl (X) 1 : Nat), .int .u64 (dgl (X) 2 : Nat), .int .u64 (dgl (X) 3 : Nat), .int .u64 (dgl (X) 4 : Nat), .int .u64 (dgl (X) 5 : Nat), .int .u64 (dgl (X) 6 : Nat), .int .u64 (dgl (X) 7 : Nat)] 24)).alloc (.cells #[.int .u64 0, .int .u64 0, .int .u64 0, .int .u64 0, .int .u64 0, .int .u64 0, .int .u64 0, .int .u64 0] 24)).alloc (.cells #[.int .u64 0, .int .u64 0, .int .u64 0, .int .u64 0, .int .u64 0, .int .u64 0, .int .u64 0, .int .u64 0] 24)) w.heap.size (dgl X) ∧ R3i w (((w.alloc (.cells #[.int .u64 (dgl (X) 0 : Nat), .int .u64 (dgl (X) 1 : Nat), .int .u64 (dgl (X) 2 : Nat), .int .u64 (dgl (X) 3 : Nat), .int .u64 (dgl (X) 4 : Nat), .int .u64 (dgl (X) 5 : Nat), .int .u64 (dgl (X) 6 : Nat), .int .u64 (dgl (X) 7 : Nat)] 24)).alloc (.cells #[.int .u64 0, .int .u64 0, .int .u64 0, .int .u64 0, .int .u64 0, .int .u64 0, .int .u64 0, .int .u64 0] 24)).alloc (.cells #[.int .u64 0, .int .u64 0, .int .u64 0, .int .u64 0, .int .u64 0, .int .u64 0, .int .u64 0, .int .u64 0] 24)) ∧ Below w.heap.size w (((w.alloc (.cells #[.int .u64 (dgl (X) 0 : Nat), .int .u64 (dgl (X) 1 : Nat), .int .u64 (dgl (X) 2 : Nat), .int .u64 (dgl (X) 3 : Nat), .int .u64 (dgl (X) 4 : Nat), .int .u64 (dgl (X) 5 : Nat), .int .u64 (dgl (X) 6 : Nat), .int .u64 (dgl (X) 7 : Nat)] 24)).alloc (.cells #[.int .u64 0, .int .u64 0, .int .u64 0, .int .u64 0, .int .u64 0, .int .u64 0, .int .u64 0, .int .u64 0] 24)).alloc (.cells #[.int .u64 0, .int .u64 0, .int .u64 0, .int .u64 0, .int .u64 0, .int .u64 0, .int .u64 0, .int .u64 0] 24))) := by
    have h2 := liesF_new (w.alloc (.cells #[.int .u64 (dgl (X) 0 : Nat), .int .u64 (dgl (X) 1 : Nat), .int .u64 (dgl (X) 2 : Nat), .int .u64 (dgl (X) 3 : Nat), .int .u64 (dgl (X) 4 : Nat), .int .u64 (dgl (X) 5 : Nat), .int .u64 (dgl (X) 6 : Nat), .int .u64 (dgl (X) 7 : Nat)] 24)) (fun _ => 0) 24
    have h3 := liesF_new ((w.alloc (.cells #[.int .u64 (dgl (X) 0 : Nat), .int .u64 (dgl (X) 1 : Nat), .int .u64 (dgl (X) 2 : Nat), .int .u64 (dgl (X) 3 : Nat), .int .u64 (dgl (X) 4 : Nat), .int .u64 (dgl (X) 5 : Nat), .int .u64 (dgl (X) 6 : Nat), .int .u64 (dgl (X) 7 : Nat)] 24)).alloc (.cells #[.int .u64 0, .int .u64 0, .int .u64 0, .int .u64 0, .int .u64 0, .int .u64 0, .int .u64 0, .int .u64 0] 24)) (fun _ => 0) 24
    rw [World.size_alloc] at h2
    rw [World.size_alloc, World.size_alloc] at h3
    exact ⟨((liesF_new w (dgl X) _).alloc _).alloc _, ⟨h2.alloc _, fun k => by simp [go_sem], h3, fun k => by simp [go_sem]⟩, below_trans (below_trans (below_allocs _ _) (below_allocs _ _)) (below_allocs _ _)⟩
  go_enter Try.func26, Try.ntmps26
  go_upto_region 1 with fail
  refine wp_gen (fun W => LiesF W w.heap.size (dgl X) ∧ R3i w W ∧ Below w.heap.size w W) ?_ ?_
  · exact HS0.out
  clear HS0
  rintro W1 h1
  have HS := hide h1
  clear h1
  go_step3
  go_wp2_with fail
  refine (HP1.out _).mono ?_
  rintro e w2 ⟨rfl, hb2⟩
  replace HS := hide (show LiesF w2 w.heap.size (dgl X) ∧ R3i w w2 ∧ Below w.heap.size w w2 from ⟨HS.out.1.below hb2, HS.out.2.1.below hb2, below_trans HS.out.2.2 hb2⟩)
  clear hb2 HP1
  go_upto_region 2 with fail
  refine wp_gen (fun W => LiesF W w.heap.size (dgl X) ∧ R3i w W ∧ LiesF W w2.heap.size (dgl q) ∧ (∀ k, W.frozen? ⟨w2.heap.size, k, none⟩ = false) ∧ Below w.heap.size w W) ⟨HS.out.1.below (below_allocs _ _), HS.out.2.1.below (below_allocs _ _), liesF_new w2 (dgl q) _, fun k => by simp [go_sem], below_trans HS.out.2.2 (below_allocs _ _)⟩ ?_
  have HP8 : Hid (w.heap.size + 3 ≤ w2.heap.size) := hide HS.out.2.1.l2.2
  clear HS
  generalize w2.heap.size = p8 at *
  rintro W2 h2
  have HS := hide h2
  clear h2
  have hup2 : ∀ {V V' : World} {K : Nat}, Below K V V' → p8 < K → (LiesF V w.heap.size (dgl X) ∧ R3i w V ∧ LiesF V p8 (dgl q) ∧ (∀ k, V.frozen? ⟨p8, k, none⟩ = false) ∧ Below w.heap.size w V) → (LiesF V' w.heap.size (dgl X) ∧ R3i w V' ∧ LiesF V' p8 (dgl q) ∧ (∀ k, V'.frozen? ⟨p8, k, none⟩ = false) ∧ Below w.heap.size w V') := fun hb hk h => by
    have h8 := HP8.out
    exact ⟨lies_box h.1 hb (by omega), h.2.1.under hb (by omega), lies_box h.2.2.1 hb hk, fun k => (hb.frozen (p := ⟨p8, k, none⟩) hk).trans (h.2.2.2.1 k), h.2.2.2.2.trans (hb.mono (by omega))⟩
  have hup : ∀ {V V' : World}, Below V.heap.size V V' → (LiesF V w.heap.size (dgl X) ∧ R3i w V ∧ LiesF V p8 (dgl q) ∧ (∀ k, V.frozen? ⟨p8, k, none⟩ = false) ∧ Below w.heap.size w V) → (LiesF V' w.heap.size (dgl X) ∧ R3i w V' ∧ LiesF V' p8 (dgl q) ∧ (∀ k, V'.frozen? ⟨p8, k, none⟩ = false) ∧ Below w.heap.size w V') := fun hb h => hup2 hb h.2.2.1.2 h
  refine wp_region_storeK 9 [7] [15, 16, 17, 14, 18, 19, 9, 10] (fun bs => [(15, .val (.agg #[.int .u64 (dgl (X) 0 : Nat), .int .u64 (dgl (X) 1 : Nat), .int .u64 (dgl (X) 2 : Nat), .int .u64 (dgl (X) 3 : Nat), .int .u64 (dgl (X) 4 : Nat), .int .u64 (dgl (X) 5 : Nat), .int .u64 (dgl (X) 6 : Nat), .int .u64 (dgl (X) 7 : Nat)])), (16, .val (.agg #[.int .u64 (dgl (q2) 0 : Nat), .int .u64 (dgl (q2) 1 : Nat), .int .u64 (dgl (q2) 2 : Nat), .int .u64 (dgl (q2) 3 : Nat), .int .u64 (dgl (q2) 4 : Nat), .int .u64 (dgl (q2) 5 : Nat), .int .u64 (dgl (q2) 6 : Nat), .int .u64 (dgl (q2) 7 : Nat)])), (17, .val (.tuple #[.agg #[.int .u64 (dgl (y) 0 : Nat), .int .u64 (dgl (y) 1 : Nat), .int .u64 (dgl (y) 2 : Nat), .int .u64 (dgl (y) 3 : Nat), .int .u64 (dgl (y) 4 : Nat), .int .u64 (dgl (y) 5 : Nat), .int .u64 (dgl (y) 6 : Nat), .int .u64 (dgl (y) 7 : Nat)], .bool ov])), (14, .val (.tuple #[.agg #[.int .u64 (dgl (y) 0 : Nat), .int .u64 (dgl (y) 1 : Nat), .int .u64 (dgl (y) 2 : Nat), .int .u64 (dgl (y) 3 : Nat), .int .u64 (dgl (y) 4 : Nat), .int .u64 (dgl (y) 5 : Nat), .int .u64 (dgl (y) 6 : Nat), .int .u64 (dgl (y) 7 : Nat)], .bool ov])), (18, .val (.agg #[.int .u64 (dgl (y) 0 : Nat), .int .u64 (dgl (y) 1 : Nat), .int .u64 (dgl (y) 2 : Nat), .int .u64 (dgl (y) 3 : Nat), .int .u64 (dgl (y) 4 : Nat), .int .u64 (dgl (y) 5 : Nat), .int .u64 (dgl (y) 6 : Nat), .int .u64 (dgl (y) 7 : Nat)])), (19, .val (.bool ov)), (9, bif bs.headD false then SlotIs.box (p8 + 1) (dgl y) else SlotIs.box (p8 + 1) (fun _ => 0)), (10, .val (.bool ov))])
    (fun _ W => LiesF W w.heap.size (dgl X) ∧ R3i w W ∧ LiesF W p8 (dgl q) ∧ (∀ k, W.frozen? ⟨p8, k, none⟩ = false) ∧ Below w.heap.size w W) (fun bs => rfl) mixedOk (by kernel_rfl) (by kernel_rfl) (by kernel_rfl) (hup (Below.refl _ _).drew HS.out) (fun bs W W' h hb => hup hb h) ?_ ?_
  · refine kSt rfl (fun φ hφ => gStep_run rfl ?_) ?_
    · intro ρ W hC hc hf hL
      have e3 : ρ (.tmp 3) = .pointer (some ⟨w.heap.size, 0, none⟩) := hL 3 (by decide +kernel)
      have hl := hC.1.1
      simp [go_sem, hc, hf, e3, hl]
      exact ⟨Below.refl _ _, rfl⟩
    refine kSt rfl (fun φ hφ => gStep_run rfl ?_) ?_
    · intro ρ W hC hc hf hL
      simp [go_sem, hc, hf]
      refine (HP2.out W).mono ?_
      rintro e w' ⟨rfl, hb⟩
      exact ⟨_, rfl, by first | exact hb | (subst hb; exact Below.refl _ _), rfl⟩
    refine kSt rfl (fun φ hφ => gStep_run rfl ?_) ?_
    · intro ρ W hC hc hf hL
      have e15 : ρ (.tmp 15) = .agg #[.int .u64 (dgl (X) 0 : Nat), .int .u64 (dgl (X) 1 : Nat), .int .u64 (dgl (X) 2 : Nat), .int .u64 (dgl (X) 3 : Nat), .int .u64 (dgl (X) 4 : Nat), .int .u64 (dgl (X) 5 : Nat), .int .u64 (dgl (X) 6 : Nat), .int .u64 (dgl (X) 7 : Nat)] := hL 15 (by decide +kernel)
      have e16 : ρ (.tmp 16) = .agg #[.int .u64 (dgl (q2) 0 : Nat), .int .u64 (dgl (q2) 1 : Nat), .int .u64 (dgl (q2) 2 : Nat), .int .u64 (dgl (q2) 3 : Nat), .int .u64 (dgl (q2) 4 : Nat), .int .u64 (dgl (q2) 5 : Nat), .int .u64 (dgl (q2) 6 : Nat), .int .u64 (dgl (q2) 7 : Nat)] := hL 16 (by decide +kernel)
      simp [go_sem, hc, hf, e15, e16]
      refine (HSB.out W).mono ?_
      rintro e w' ⟨rfl, hb⟩
      exact ⟨_, rfl, by first | exact hb | (subst hb; exact Below.refl _ _), rfl⟩
    refine kSt rfl (fun φ hφ => gStep_run rfl (gRun_move 17 14 (.inl rfl) rfl (by decide +kernel) (fun v w h => h))) ?_
    refine kSt rfl (fun φ hφ => gStep_run rfl ?_) ?_
    · intro ρ W hC hc hf hL
      have e14 : ρ (.tmp 14) = .tuple #[.agg #[.int .u64 (dgl (y) 0 : Nat), .int .u64 (dgl (y) 1 : Nat), .int .u64 (dgl (y) 2 : Nat), .int .u64 (dgl (y) 3 : Nat), .int .u64 (dgl (y) 4 : Nat), .int .u64 (dgl (y) 5 : Nat), .int .u64 (dgl (y) 6 : Nat), .int .u64 (dgl (y) 7 : Nat)], .bool ov] := hL 14 (by decide +kernel)
      simp [go_sem, hc, hf, e14]
      exact ⟨Below.refl _ _, rfl⟩
    refine kSt rfl (fun φ hφ => gStep_run rfl ?_) ?_
    · intro ρ W hC hc hf hL
      have e14 : ρ (.tmp 14) = .tuple #[.agg #[.int .u64 (dgl (y) 0 : Nat), .int .u64 (dgl (y) 1 : Nat), .int .u64 (dgl (y) 2 : Nat), .int .u64 (dgl (y) 3 : Nat), .int .u64 (dgl (y) 4 : Nat), .int .u64 (dgl (y) 5 : Nat), .int .u64 (dgl (y) 6 : Nat), .int .u64 (dgl (y) 7 : Nat)], .bool ov] := hL 14 (by decide +kernel)
      simp [go_sem, hc, hf, e14]
      exact ⟨Below.refl _ _, rfl⟩
    refine kSt rfl (fun φ hφ => gStep_run rfl ?_) ?_
    · intro ρ W hC hc hf hL
      have hφ0 : φ 7 = false := hφ 7 (by simp) (by kernel_rfl)
      simp [go_sem, hc, hf]
      refine ⟨below_allocs _ _, ?_⟩
      show (bif φ 7 then SlotIs.box (p8 + 1) (dgl y) else SlotIs.box (p8 + 1) (fun _ => 0)).R _ _
      rw [hφ0]
      exact ⟨_, rfl, hC.2.2.1.2, liesF_new _ (fun _ => 0) _, fun i => by simp [go_sem]⟩
    refine kStS rfl ⟨rfl, rfl, ?_⟩ ?_
    · intro φ ρ W hφ hC hc hL
      have b9 := hL 9 (by decide +kernel)
      have e18 : ρ (.tmp 18) = .agg #[.int .u64 (dgl (y) 0 : Nat), .int .u64 (dgl (y) 1 : Nat), .int .u64 (dgl (y) 2 : Nat), .int .u64 (dgl (y) 3 : Nat), .int .u64 (dgl (y) 4 : Nat), .int .u64 (dgl (y) 5 : Nat), .int .u64 (dgl (y) 6 : Nat), .int .u64 (dgl (y) 7 : Nat)] := hL 18 (by decide +kernel)
      have bx : (bif φ 7 then SlotIs.box (p8 + 1) (dgl y) else SlotIs.box (p8 + 1) (fun _ => 0)).R (ρ (.tmp 9)) W := hL 9 (by decide +kernel)
      rw [hφ] at bx
      obtain ⟨px, ex, qx, lx, zx⟩ := bx
      have hz := lx.1
      have hzl := lx.2
      have hw8 := HP8.out
      refine gUpon_of ((((((((W.setCell ⟨px, 0, none⟩ (.int .u64 (dgl y 0 : Nat))).setCell ⟨px, 1, none⟩ (.int .u64 (dgl y 1 : Nat))).setCell ⟨px, 2, none⟩ (.int .u64 (dgl y 2 : Nat))).setCell ⟨px, 3, none⟩ (.int .u64 (dgl y 3 : Nat))).setCell ⟨px, 4, none⟩ (.int .u64 (dgl y 4 : Nat))).setCell ⟨px, 5, none⟩ (.int .u64 (dgl y 5 : Nat))).setCell ⟨px, 6, none⟩ (.int .u64 (dgl y 6 : Nat))).setCell ⟨px, 7, none⟩ (.int .u64 (dgl y 7 : Nat))) ?_ (fun _ => ?_)
      · simp [go_sem, hc, e18, ex, hz, hzl, zx, gUpon]
      have hs8 := below_set8 (Below.refl (p8 + 1) W) px qx (.int .u64 (dgl y 0 : Nat)) (.int .u64 (dgl y 1 : Nat)) (.int .u64 (dgl y 2 : Nat)) (.int .u64 (dgl y 3 : Nat)) (.int .u64 (dgl y 4 : Nat)) (.int .u64 (dgl y 5 : Nat)) (.int .u64 (dgl y 6 : Nat)) (.int .u64 (dgl y 7 : Nat))
      refine ⟨hup2 hs8 (by omega) hC, fun t => ?_⟩
      refine (tbl_imp rfl (fun _ => val_imp) (tbl_imp rfl (fun _ => val_imp) (tbl_imp rfl (fun _ => val_imp) (tbl_imp rfl (fun _ => val_imp) (tbl_imp rfl (fun _ => val_imp) (tbl_imp rfl (fun _ => val_imp) (tbl_imp rfl (fun ht h => ?_) (tbl_imp rfl (fun _ => val_imp) tbl_nil_imp))))))))
      · subst ht
        show (bif (φ 7 || true) then SlotIs.box (p8 + 1) (dgl y) else SlotIs.box (p8 + 1) (fun _ => 0)).R _ _
        rw [Bool.or_true]
        exact ⟨px, ex, qx, set8_same W px (dgl y) (fun _ => 0) lx, fun i => by simpa [go_sem] using zx i⟩
    refine kSt rfl (fun φ hφ => gStep_run rfl (gRun_move 19 10 (.inr rfl) rfl (by decide +kernel) (fun v w h => h))) ?_
    exact kSt0
  · intro W hC
    refine gFi 15 rfl ?_
    rintro _ rfl
    refine gFi 16 rfl ?_
    rintro _ rfl
    refine gFi 17 rfl ?_
    rintro _ rfl
    refine gFi 14 rfl ?_
    rintro _ rfl
    refine gFi 18 rfl ?_
    rintro _ rfl
    refine gFi 19 rfl ?_
    rintro _ rfl
    refine gFi 9 rfl ?_
    rintro _ ⟨p9, rfl, q9, l9, z9⟩
    refine gFiN rfl ?_
    refine gFi 10 rfl ?_
    rintro _ rfl
    refine gFi0 ?_
    simp only [List.drop_succ_cons, List.drop_zero, Act.put, List.setIfInBounds_toArray, List.set_cons_succ, List.set_cons_zero]
    have HS := hide (show WkB q y p8 p9 w W from ⟨hC.2.1.l1, hC.2.1.f1, hC.2.1.l2, hC.2.1.f2, hC.2.2.1, hC.2.2.2.1, l9, z9, HP8.out, q9⟩)
    have HI := hide (HAP.out (p9 + 1) 0 _ _ (HI0.out (p9 + 1) (by have := HP8.out; omega)) (apartC_of hC.2.2.2.2))
    clear hC l9 z9 q9 HP2 HSB HI0 hup2
    go_wp2
    go_step3
    go_wp2
    go_loopw [21] (fun t wr => ∃ j : Nat, j ≤ 64 ∧ j ≤ steps ∧ t = .int .i64 j ∧ Hid (WkB (P j) (qz (L j)) p8 p9 w wr ∧ I (p9 + 1) j wr))
      (fun t _ => 64 - (intOf t).toNat)
    case atStart => exact ⟨0, by omega, by omega, rfl, hide ⟨by rw [← hq0.out, ← hy0.out]; exact HS.out, HI.out⟩⟩
    case round =>
      clear HS HI hq0 hy0
      obtain ⟨j, hj, hjs, rfl, HS⟩ := hrel
      by_cases hes : j = steps
      · subst hes
        rcases Nat.lt_or_ge j 64 with hlt | hge
        · have hlt2 : (j : Int) < 64 := by omega
          have h8 := HS.out.1.l8
          have h9 := HS.out.1.l9
          have ho8 := HS.out.1.o8
          have ho9 := HS.out.1.o9
          have hI := HS.out.2
          have HR := hide (show R3St w.heap.size (p9 + 1) (w.heap.size + 1) (w.heap.size + 2) 0 0 wr wr ∧ LiesF wr p8 (dgl (P j)) ∧ LiesF wr p9 (dgl (qz (L j))) from ⟨⟨by rw [dgl_z]; exact HS.out.1.l1, HS.out.1.f1, by rw [dgl_z]; exact HS.out.1.l2, HS.out.1.f2, ⟨rfl, rfl, rfl, Nat.le_refl _, fun k hk _ => rfl⟩, by omega, by omega, by omega⟩, h8, h9⟩)
          have HNE := hide (show w.heap.size + 2 < p8 ∧ p8 < p9 from ⟨by omega, ho9⟩)
          clear HS HST HCA h8 h9
          go_upto_region 10 with fail
          refine wp_region_storeK 4 [2, 3] [33, 34] (fun bs => [(33, .val (.agg #[.int .u64 (dgl (P j) 0 : Nat), .int .u64 (dgl (P j) 1 : Nat), .int .u64 (dgl (P j) 2 : Nat), .int .u64 (dgl (P j) 3 : Nat), .int .u64 (dgl (P j) 4 : Nat), .int .u64 (dgl (P j) 5 : Nat), .int .u64 (dgl (P j) 6 : Nat), .int .u64 (dgl (P j) 7 : Nat)])), (34, .val (.agg #[.int .u64 (dgl (qz (L j)) 0 : Nat), .int .u64 (dgl (qz (L j)) 1 : Nat), .int .u64 (dgl (qz (L j)) 2 : Nat), .int .u64 (dgl (qz (L j)) 3 : Nat), .int .u64 (dgl (qz (L j)) 4 : Nat), .int .u64 (dgl (qz (L j)) 5 : Nat), .int .u64 (dgl (qz (L j)) 6 : Nat), .int .u64 (dgl (qz (L j)) 7 : Nat)]))])
            (fun bs W => (∀ c e, bs.headD false = c → bs.tail.headD false = e → R3St w.heap.size (p9 + 1) (w.heap.size + 1) (w.heap.size + 2) (bif c then P j else 0) (bif e then qz (L j) else 0) wr W) ∧ LiesF W p8 (dgl (P j)) ∧ LiesF W p9 (dgl (qz (L j)))) (fun bs => rfl) mixedOk (by kernel_rfl) (by kernel_rfl) (by kernel_rfl) (⟨fun c e hc he => by subst hc; subst he; exact (HR.out).1.below (Below.refl _ _).drew, (HR.out).2.1.below (Below.refl _ _).drew, (HR.out).2.2.below (Below.refl _ _).drew⟩) (fun bs W W' h hb => ⟨fun c e hc he => (h.1 c e hc he).below hb, h.2.1.below hb, h.2.2.below hb⟩) ?_ ?_
          · refine kSt rfl (fun φ hφ => gStep_run rfl ?_) ?_
            · intro ρ W hC hc hf hL
              have e8 : ρ (.tmp 8) = .pointer (some ⟨p8, 0, none⟩) := hL 8 (by decide +kernel)
              have hl := hC.2.1.1
              simp [go_sem, hc, hf, e8, hl]
              exact ⟨Below.refl _ _, rfl⟩
            refine kSt rfl (fun φ hφ => gStep_run rfl ?_) ?_
            · intro ρ W hC hc hf hL
              have e9 : ρ (.tmp 9) = .pointer (some ⟨p9, 0, none⟩) := hL 9 (by decide +kernel)
              have hl := hC.2.2.1
              simp [go_sem, hc, hf, e9, hl]
              exact ⟨Below.refl _ _, rfl⟩
            refine kStS rfl ⟨rfl, rfl, ?_⟩ ?_
            · intro φ ρ W hφ hC hc hL
              have e6 : ρ (.tmp 6) = .pointer (some ⟨w.heap.size + 1, 0, none⟩) := hL 6 (by decide +kernel)
              have e33 : ρ (.tmp 33) = .agg #[.int .u64 (dgl (P j) 0 : Nat), .int .u64 (dgl (P j) 1 : Nat), .int .u64 (dgl (P j) 2 : Nat), .int .u64 (dgl (P j) 3 : Nat), .int .u64 (dgl (P j) 4 : Nat), .int .u64 (dgl (P j) 5 : Nat), .int .u64 (dgl (P j) 6 : Nat), .int .u64 (dgl (P j) 7 : Nat)] := hL 33 (by decide +kernel)
              have g : R3St w.heap.size (p9 + 1) (w.heap.size + 1) (w.heap.size + 2) 0 (bif φ 3 then qz (L j) else 0) wr W := hC.1 false (φ 3) (by simp [hφ]) rfl
              have hz := g.lx.1
              have hzl := g.lx.2
              have hzf := g.fx
              have hne := HNE.out
              refine gUpon_of ((((((((W.setCell ⟨w.heap.size + 1, 0, none⟩ (.int .u64 (dgl (P j) 0 : Nat))).setCell ⟨w.heap.size + 1, 1, none⟩ (.int .u64 (dgl (P j) 1 : Nat))).setCell ⟨w.heap.size + 1, 2, none⟩ (.int .u64 (dgl (P j) 2 : Nat))).setCell ⟨w.heap.size + 1, 3, none⟩ (.int .u64 (dgl (P j) 3 : Nat))).setCell ⟨w.heap.size + 1, 4, none⟩ (.int .u64 (dgl (P j) 4 : Nat))).setCell ⟨w.heap.size + 1, 5, none⟩ (.int .u64 (dgl (P j) 5 : Nat))).setCell ⟨w.heap.size + 1, 6, none⟩ (.int .u64 (dgl (P j) 6 : Nat))).setCell ⟨w.heap.size + 1, 7, none⟩ (.int .u64 (dgl (P j) 7 : Nat))) ?_ (fun _ => ?_)
              · simp [go_sem, hc, e6, e33, hz, hzl, hzf, gUpon]
              refine ⟨⟨fun c e hc he => ?_, lies_ne hC.2.1 (by omega), lies_ne hC.2.2 (by omega)⟩, fun t => ?_⟩
              · have hc1 : c = true := by rw [← hc]; simp
                have he1 : e = (φ 3) := by rw [← he]; simp
                subst hc1
                subst he1
                exact g.set1 _
              refine (tbl_imp rfl (fun _ => val_imp) (tbl_imp rfl (fun _ => val_imp) tbl_nil_imp))
            refine kStS rfl ⟨rfl, rfl, ?_⟩ ?_
            · intro φ ρ W hφ hC hc hL
              have e7 : ρ (.tmp 7) = .pointer (some ⟨w.heap.size + 2, 0, none⟩) := hL 7 (by decide +kernel)
              have e34 : ρ (.tmp 34) = .agg #[.int .u64 (dgl (qz (L j)) 0 : Nat), .int .u64 (dgl (qz (L j)) 1 : Nat), .int .u64 (dgl (qz (L j)) 2 : Nat), .int .u64 (dgl (qz (L j)) 3 : Nat), .int .u64 (dgl (qz (L j)) 4 : Nat), .int .u64 (dgl (qz (L j)) 5 : Nat), .int .u64 (dgl (qz (L j)) 6 : Nat), .int .u64 (dgl (qz (L j)) 7 : Nat)] := hL 34 (by decide +kernel)
              have g : R3St w.heap.size (p9 + 1) (w.heap.size + 1) (w.heap.size + 2) (bif φ 2 then P j else 0) 0 wr W := hC.1 (φ 2) false rfl (by simp [hφ])
              have hz := g.ly.1
              have hzl := g.ly.2
              have hzf := g.fy
              have hne := HNE.out
              refine gUpon_of ((((((((W.setCell ⟨w.heap.size + 2, 0, none⟩ (.int .u64 (dgl (qz (L j)) 0 : Nat))).setCell ⟨w.heap.size + 2, 1, none⟩ (.int .u64 (dgl (qz (L j)) 1 : Nat))).setCell ⟨w.heap.size + 2, 2, none⟩ (.int .u64 (dgl (qz (L j)) 2 : Nat))).setCell ⟨w.heap.size + 2, 3, none⟩ (.int .u64 (dgl (qz (L j)) 3 : Nat))).setCell ⟨w.heap.size + 2, 4, none⟩ (.int .u64 (dgl (qz (L j)) 4 : Nat))).setCell ⟨w.heap.size + 2, 5, none⟩ (.int .u64 (dgl (qz (L j)) 5 : Nat))).setCell ⟨w.heap.size + 2, 6, none⟩ (.int .u64 (dgl (qz (L j)) 6 : Nat))).setCell ⟨w.heap.size + 2, 7, none⟩ (.int .u64 (dgl (qz (L j)) 7 : Nat))) ?_ (fun _ => ?_)
              · simp [go_sem, hc, e7, e34, hz, hzl, hzf, gUpon]
              refine ⟨⟨fun c e hc he => ?_, lies_ne hC.2.1 (by omega), lies_ne hC.2.2 (by omega)⟩, fun t => ?_⟩
              · have hc1 : c = (φ 2) := by rw [← hc]; simp
                have he1 : e = true := by rw [← he]; simp
                subst hc1
                subst he1
                exact g.set2 _
              refine (tbl_imp rfl (fun _ => val_imp) (tbl_imp rfl (fun _ => val_imp) tbl_nil_imp))
            exact kSt0
          · intro W hC
            refine gFi 33 rfl ?_
            rintro _ rfl
            refine gFi 34 rfl ?_
            rintro _ rfl
            refine gFiN rfl ?_
            refine gFiN rfl ?_
            refine gFi0 ?_
            simp only [List.drop_succ_cons, List.drop_zero, Act.put, List.setIfInBounds_toArray, List.set_cons_succ, List.set_cons_zero]
            have HS := hide (hC.1 true true rfl rfl)
            clear hC
            have hr1 := HS.out.lx.1
            have hrl1 := HS.out.lx.2
            have hrf1 := HS.out.fx
            have hr2 := HS.out.ly.1
            have hrl2 := HS.out.ly.2
            have hrf2 := HS.out.fy
            have hap := HS.out.ap
            clear HS
            go_wp2
            try rw [Exit.noGoto_ret]
            exact bodyPost_ret (v := .tuple #[.agg #[.int .u64 (dgl (P j) 0 : Nat), .int .u64 (dgl (P j) 1 : Nat), .int .u64 (dgl (P j) 2 : Nat), .int .u64 (dgl (P j) 3 : Nat), .int .u64 (dgl (P j) 4 : Nat), .int .u64 (dgl (P j) 5 : Nat), .int .u64 (dgl (P j) 6 : Nat), .int .u64 (dgl (P j) 7 : Nat)], .agg #[.int .u64 (dgl (qz (L j)) 0 : Nat), .int .u64 (dgl (qz (L j)) 1 : Nat), .int .u64 (dgl (qz (L j)) 2 : Nat), .int .u64 (dgl (qz (L j)) 3 : Nat), .int .u64 (dgl (qz (L j)) 4 : Nat), .int .u64 (dgl (qz (L j)) 5 : Nat), .int .u64 (dgl (qz (L j)) 6 : Nat), .int .u64 (dgl (qz (L j)) 7 : Nat)]]) (by simp [results, Try.results26, go_sem, hr1, hrl1, hr2, hrl2]) rfl ⟨rfl, p9 + 1, by omega, HAP.out _ _ _ _ hI hap⟩
      
        · have hlt2 : ¬ (j : Int) < 64 := by omega
          have h8 := HS.out.1.l8
          have h9 := HS.out.1.l9
          have ho8 := HS.out.1.o8
          have ho9 := HS.out.1.o9
          have hI := HS.out.2
          have HR := hide (show R3St w.heap.size (p9 + 1) (w.heap.size + 1) (w.heap.size + 2) 0 0 wr wr ∧ LiesF wr p8 (dgl (P j)) ∧ LiesF wr p9 (dgl (qz (L j))) from ⟨⟨by rw [dgl_z]; exact HS.out.1.l1, HS.out.1.f1, by rw [dgl_z]; exact HS.out.1.l2, HS.out.1.f2, ⟨rfl, rfl, rfl, Nat.le_refl _, fun k hk _ => rfl⟩, by omega, by omega, by omega⟩, h8, h9⟩)
          have HNE := hide (show w.heap.size + 2 < p8 ∧ p8 < p9 from ⟨by omega, ho9⟩)
          clear HS HST HCA h8 h9
          go_upto_region 10 with fail
          refine wp_region_storeK 4 [2, 3] [33, 34] (fun bs => [(33, .val (.agg #[.int .u64 (dgl (P j) 0 : Nat), .int .u64 (dgl (P j) 1 : Nat), .int .u64 (dgl (P j) 2 : Nat), .int .u64 (dgl (P j) 3 : Nat), .int .u64 (dgl (P j) 4 : Nat), .int .u64 (dgl (P j) 5 : Nat), .int .u64 (dgl (P j) 6 : Nat), .int .u64 (dgl (P j) 7 : Nat)])), (34, .val (.agg #[.int .u64 (dgl (qz (L j)) 0 : Nat), .int .u64 (dgl (qz (L j)) 1 : Nat), .int .u64 (dgl (qz (L j)) 2 : Nat), .int .u64 (dgl (qz (L j)) 3 : Nat), .int .u64 (dgl (qz (L j)) 4 : Nat), .int .u64 (dgl (qz (L j)) 5 : Nat), .int .u64 (dgl (qz (L j)) 6 : Nat), .int .u64 (dgl (qz (L j)) 7 : Nat)]))])
            (fun bs W => (∀ c e, bs.headD false = c → bs.tail.headD false = e → R3St w.heap.size (p9 + 1) (w.heap.size + 1) (w.heap.size + 2) (bif c then P j else 0) (bif e then qz (L j) else 0) wr W) ∧ LiesF W p8 (dgl (P j)) ∧ LiesF W p9 (dgl (qz (L j)))) (fun bs => rfl) mixedOk (by kernel_rfl) (by kernel_rfl) (by kernel_rfl) (⟨fun c e hc he => by subst hc; subst he; exact (HR.out).1.below (Below.refl _ _).drew, (HR.out).2.1.below (Below.refl _ _).drew, (HR.out).2.2.below (Below.refl _ _).drew⟩) (fun bs W W' h hb => ⟨fun c e hc he => (h.1 c e hc he).below hb, h.2.1.below hb, h.2.2.below hb⟩) ?_ ?_
          · refine kSt rfl (fun φ hφ => gStep_run rfl ?_) ?_
            · intro ρ W hC hc hf hL
              have e8 : ρ (.tmp 8) = .pointer (some ⟨p8, 0, none⟩) := hL 8 (by decide +kernel)
              have hl := hC.2.1.1
              simp [go_sem, hc, hf, e8, hl]
              exact ⟨Below.refl _ _, rfl⟩
            refine kSt rfl (fun φ hφ => gStep_run rfl ?_) ?_
            · intro ρ W hC hc hf hL
              have e9 : ρ (.tmp 9) = .pointer (some ⟨p9, 0, none⟩) := hL 9 (by decide +kernel)
              have hl := hC.2.2.1
              simp [go_sem, hc, hf, e9, hl]
              exact ⟨Below.refl _ _, rfl⟩
            refine kStS rfl ⟨rfl, rfl, ?_⟩ ?_
            · intro φ ρ W hφ hC hc hL
              have e6 : ρ (.tmp 6) = .pointer (some ⟨w.heap.size + 1, 0, none⟩) := hL 6 (by decide +kernel)
              have e33 : ρ (.tmp 33) = .agg #[.int .u64 (dgl (P j) 0 : Nat), .int .u64 (dgl (P j) 1 : Nat), .int .u64 (dgl (P j) 2 : Nat), .int .u64 (dgl (P j) 3 : Nat), .int .u64 (dgl (P j) 4 : Nat), .int .u64 (dgl (P j) 5 : Nat), .int .u64 (dgl (P j) 6 : Nat), .int .u64 (dgl (P j) 7 : Nat)] := hL 33 (by decide +kernel)
              have g : R3St w.heap.size (p9 + 1) (w.heap.size + 1) (w.heap.size + 2) 0 (bif φ 3 then qz (L j) else 0) wr W := hC.1 false (φ 3) (by simp [hφ]) rfl
              have hz := g.lx.1
              have hzl := g.lx.2
              have hzf := g.fx
              have hne := HNE.out
              refine gUpon_of ((((((((W.setCell ⟨w.heap.size + 1, 0, none⟩ (.int .u64 (dgl (P j) 0 : Nat))).setCell ⟨w.heap.size + 1, 1, none⟩ (.int .u64 (dgl (P j) 1 : Nat))).setCell ⟨w.heap.size + 1, 2, none⟩ (.int .u64 (dgl (P j) 2 : Nat))).setCell ⟨w.heap.size + 1, 3, none⟩ (.int .u64 (dgl (P j) 3 : Nat))).setCell ⟨w.heap.size + 1, 4, none⟩ (.int .u64 (dgl (P j) 4 : Nat))).setCell ⟨w.heap.size + 1, 5, none⟩ (.int .u64 (dgl (P j) 5 : Nat))).setCell ⟨w.heap.size + 1, 6, none⟩ (.int .u64 (dgl (P j) 6 : Nat))).setCell ⟨w.heap.size + 1, 7, none⟩ (.int .u64 (dgl (P j) 7 : Nat))) ?_ (fun _ => ?_)
              · simp [go_sem, hc, e6, e33, hz, hzl, hzf, gUpon]
              refine ⟨⟨fun c e hc he => ?_, lies_ne hC.2.1 (by omega), lies_ne hC.2.2 (by omega)⟩, fun t => ?_⟩
              · have hc1 : c = true := by rw [← hc]; simp
                have he1 : e = (φ 3) := by rw [← he]; simp
                subst hc1
                subst he1
                exact g.set1 _
              refine (tbl_imp rfl (fun _ => val_imp) (tbl_imp rfl (fun _ => val_imp) tbl_nil_imp))
            refine kStS rfl ⟨rfl, rfl, ?_⟩ ?_
            · intro φ ρ W hφ hC hc hL
              have e7 : ρ (.tmp 7) = .pointer (some ⟨w.heap.size + 2, 0, none⟩) := hL 7 (by decide +kernel)
              have e34 : ρ (.tmp 34) = .agg #[.int .u64 (dgl (qz (L j)) 0 : Nat), .int .u64 (dgl (qz (L j)) 1 : Nat), .int .u64 (dgl (qz (L j)) 2 : Nat), .int .u64 (dgl (qz (L j)) 3 : Nat), .int .u64 (dgl (qz (L j)) 4 : Nat), .int .u64 (dgl (qz (L j)) 5 : Nat), .int .u64 (dgl (qz (L j)) 6 : Nat), .int .u64 (dgl (qz (L j)) 7 : Nat)] := hL 34 (by decide +kernel)
              have g : R3St w.heap.size (p9 + 1) (w.heap.size + 1) (w.heap.size + 2) (bif φ 2 then P j else 0) 0 wr W := hC.1 (φ 2) false rfl (by simp [hφ])
              have hz := g.ly.1
              have hzl := g.ly.2
              have hzf := g.fy
              have hne := HNE.out
              refine gUpon_of ((((((((W.setCell ⟨w.heap.size + 2, 0, none⟩ (.int .u64 (dgl (qz (L j)) 0 : Nat))).setCell ⟨w.heap.size + 2, 1, none⟩ (.int .u64 (dgl (qz (L j)) 1 : Nat))).setCell ⟨w.heap.size + 2, 2, none⟩ (.int .u64 (dgl (qz (L j)) 2 : Nat))).setCell ⟨w.heap.size + 2, 3, none⟩ (.int .u64 (dgl (qz (L j)) 3 : Nat))).setCell ⟨w.heap.size + 2, 4, none⟩ (.int .u64 (dgl (qz (L j)) 4 : Nat))).setCell ⟨w.heap.size + 2, 5, none⟩ (.int .u64 (dgl (qz (L j)) 5 : Nat))).setCell ⟨w.heap.size + 2, 6, none⟩ (.int .u64 (dgl (qz (L j)) 6 : Nat))).setCell ⟨w.heap.size + 2, 7, none⟩ (.int .u64 (dgl (qz (L j)) 7 : Nat))) ?_ (fun _ => ?_)
              · simp [go_sem, hc, e7, e34, hz, hzl, hzf, gUpon]
              refine ⟨⟨fun c e hc he => ?_, lies_ne hC.2.1 (by omega), lies_ne hC.2.2 (by omega)⟩, fun t => ?_⟩
              · have hc1 : c = (φ 2) := by rw [← hc]; simp
                have he1 : e = true := by rw [← he]; simp
                subst hc1
                subst he1
                exact g.set2 _
              refine (tbl_imp rfl (fun _ => val_imp) (tbl_imp rfl (fun _ => val_imp) tbl_nil_imp))
            exact kSt0
          · intro W hC
            refine gFi 33 rfl ?_
            rintro _ rfl
            refine gFi 34 rfl ?_
            rintro _ rfl
            refine gFiN rfl ?_
            refine gFiN rfl ?_
            refine gFi0 ?_
            simp only [List.drop_succ_cons, List.drop_zero, Act.put, List.setIfInBounds_toArray, List.set_cons_succ, List.set_cons_zero]
            have HS := hide (hC.1 true true rfl rfl)
            clear hC
            have hr1 := HS.out.lx.1
            have hrl1 := HS.out.lx.2
            have hrf1 := HS.out.fx
            have hr2 := HS.out.ly.1
            have hrl2 := HS.out.ly.2
            have hrf2 := HS.out.fy
            have hap := HS.out.ap
            clear HS
            go_wp2
            try rw [Exit.noGoto_ret]
            exact bodyPost_ret (v := .tuple #[.agg #[.int .u64 (dgl (P j) 0 : Nat), .int .u64 (dgl (P j) 1 : Nat), .int .u64 (dgl (P j) 2 : Nat), .int .u64 (dgl (P j) 3 : Nat), .int .u64 (dgl (P j) 4 : Nat), .int .u64 (dgl (P j) 5 : Nat), .int .u64 (dgl (P j) 6 : Nat), .int .u64 (dgl (P j) 7 : Nat)], .agg #[.int .u64 (dgl (qz (L j)) 0 : Nat), .int .u64 (dgl (qz (L j)) 1 : Nat), .int .u64 (dgl (qz (L j)) 2 : Nat), .int .u64 (dgl (qz (L j)) 3 : Nat), .int .u64 (dgl (qz (L j)) 4 : Nat), .int .u64 (dgl (qz (L j)) 5 : Nat), .int .u64 (dgl (qz (L j)) 6 : Nat), .int .u64 (dgl (qz (L j)) 7 : Nat)]]) (by simp [results, Try.results26, go_sem, hr1, hrl1, hr2, hrl2]) rfl ⟨rfl, p9 + 1, by omega, HAP.out _ _ _ _ hI hap⟩
      
      · have hlt : j < 64 := by omega
        have hlt2 : (j : Int) < 64 := by omega
        have he : ((j : Int) == (steps : Int)) = false := by rw [beq_eq_false_iff_ne]; omega
        have he2 : ¬ (j : Int) = (steps : Int) := by omega
        have ho8 := HS.out.1.o8
        have ho9 := HS.out.1.o9
        have HSTJ := hide (HST.out j hlt p8 p9 wr (by omega) HS.out.1.stp)
        go_wp2_with fail
        refine HSTJ.out.mono ?_
        rintro e w5 ⟨rfl, hs5⟩
        have HS5 := hide (show WkB (P (j + 1)) (qz (L (j + 1))) p8 p9 w w5 ∧ I (p9 + 1) j w5 from ⟨HS.out.1.step hs5, HAP.out _ _ _ _ HS.out.2 (apartC_only2 hs5.on (by omega) (by omega) (by omega) (by omega))⟩)
        clear HS HSTJ hs5
        have hsz5 := HS5.out.1.l9.2
        have HCL := hide (HCA.out (p9 + 1) j w5 hlt (by omega) (by omega) HS5.out.2)
        go_wp2_with fail
        refine HCL.out.mono ?_
        rintro e w6 ⟨rfl, hI6, hk6⟩
        have HS6 := hide (show WkB (P (j + 1)) (qz (L (j + 1))) p8 p9 w w6 ∧ I (p9 + 1) (j + 1) w6 from ⟨HS5.out.1.kept hk6, hI6⟩)
        clear HS5 HCL hI6 hk6 hsz5
        have hw3 : IntKind.i64.wrap ((j : Int) + 1) = ((j + 1 : Nat) : Int) := by rw [IntKind.wrap_i64]; omega
        go_wp2
        go_roundw
        case rel => exact ⟨j + 1, by omega, by omega, by first | rfl | go_num, HS6⟩
        case measure => simp [intOf]; omega
    
end Go.Proofs.Ytbngaajhdaciaaa

/- Contracts: srtroot.walk in numbers; the closures that are told the digits; srtroot.Norm, unnormed. -/
set_option linter.unusedVariables false
set_option linter.unusedSimpArgs false
set_option maxRecDepth 8000
namespace Go.Proofs.Ytbngaajhdaciaaa
open Go.RowKit Plain

theorem pn16_lt {n : Nat} (h : Ok16 n) (j : Nat) (hj : j ≤ 64) : pn16 n j < 2 ^ 129 := by
  have h2 := (h.sh j hj).2
  have h3 := Nat.lt_mul_of_div_lt (Nat.lt_succ_of_le h2) (Nat.two_pow_pos 122)
  have e : (64 + 1) * 2 ^ 122 < 2 ^ 129 := by decide +kernel
  rw [Nat.succ_eq_add_one] at h3
  exact Nat.lt_trans h3 e
theorem lf16_wide {n : Nat} (h : Ok16 n) (hu : up16 n < 2 ^ 256) (j : Nat) (hj : j ≤ 64) : -((2 ^ 511 : Nat) : Int) ≤ lf16 n j ∧ lf16 n j < ((2 ^ 511 : Nat) : Int) := by
  have h1 := pn16_lt h j hj
  have h2 : pn16 n j * pn16 n j ≤ 2 ^ 129 * 2 ^ 129 := Nat.mul_le_mul (Nat.le_of_lt h1) (Nat.le_of_lt h1)
  have e1 : 2 ^ 129 * 2 ^ 129 < 2 ^ 511 := by decide +kernel
  have e2 : 2 ^ 256 < 2 ^ 511 := by decide +kernel
  have hl : lf16 n j = ((up16 n : Nat) : Int) - ((pn16 n j * pn16 n j : Nat) : Int) := rfl
  generalize pn16 n j * pn16 n j = M at *
  generalize 2 ^ 129 * 2 ^ 129 = K at *
  generalize (2 ^ 511 : Nat) = H at *
  generalize (2 ^ 256 : Nat) = U at *
  omega
theorem sq_step (up p g w k : Int) (hg : g = p + k * w) : up - g * g = (up - p * p) - k * ((p + g) * w) := by
  have e : (p + g) * w * k = (p + g) * (w * k) := Int.mul_assoc _ _ _
  have e2 : w * k = g - p := by rw [hg, Int.mul_comm w k]; omega
  rw [Int.mul_comm k, e, e2, Int.add_mul, Int.mul_sub, Int.mul_sub, Int.mul_comm g p]
  omega
theorem lf16_step {n : Nat} (h : Ok16 n) (j : Nat) (hj : j < 64) : lf16 n (j + 1) = lf16 n j - dg16 n j * (((pn16 n j + pn16 n (j + 1) : Nat) : Int) * ((2 ^ (126 - 2 * j) : Nat) : Int)) := by
  have hs := h.step j hj
  have e1 : lf16 n j = ((up16 n : Nat) : Int) - ((pn16 n j : Nat) : Int) * ((pn16 n j : Nat) : Int) := by unfold lf16; rw [Int.natCast_mul]
  have e2 : lf16 n (j + 1) = ((up16 n : Nat) : Int) - ((pn16 n (j + 1) : Nat) : Int) * ((pn16 n (j + 1) : Nat) : Int) := by unfold lf16; rw [Int.natCast_mul]
  rw [e1, e2, Int.natCast_add]
  exact sq_step _ _ _ _ _ hs
theorem power_w (n : Nat) (h : n < 512) (w : World) : Calls Try.prog 49 #[.int .i64 (n : Nat)] w fun e w' => e = .returned (.agg #[.int .u64 (dgl (2 ^ n) 0 : Nat), .int .u64 (dgl (2 ^ n) 1 : Nat), .int .u64 (dgl (2 ^ n) 2 : Nat), .int .u64 (dgl (2 ^ n) 3 : Nat), .int .u64 (dgl (2 ^ n) 4 : Nat), .int .u64 (dgl (2 ^ n) 5 : Nat), .int .u64 (dgl (2 ^ n) 6 : Nat), .int .u64 (dgl (2 ^ n) 7 : Nat)]) ∧ Below w.heap.size w w' :=
  power_lt n 512 (qq_pow 512 rfl) h _ rfl rfl w
theorem sum2_any (x y : Int) (v : Value) (w : World) (hv : RdW w v [qz x, qz y]) : Calls Try.prog 52 #[v] w fun e w' => e = .returned (.agg #[.int .u64 (dgl (qz (x + y)) 0 : Nat), .int .u64 (dgl (qz (x + y)) 1 : Nat), .int .u64 (dgl (qz (x + y)) 2 : Nat), .int .u64 (dgl (qz (x + y)) 3 : Nat), .int .u64 (dgl (qz (x + y)) 4 : Nat), .int .u64 (dgl (qz (x + y)) 5 : Nat), .int .u64 (dgl (qz (x + y)) 6 : Nat), .int .u64 (dgl (qz (x + y)) 7 : Nat)]) ∧ Below w.heap.size w w' := by
  have h := prodSum_any [qz x, qz y] v w hv (fun i => match i with
    | 0 => qz_lt _
    | 1 => qz_lt _
    | i + 2 => qq_pos)
  rw [show [qz x, qz y].length = 2 from rfl, wq_sum] at h
  exact h
/-- walk: the digits of a root, told to a function; the root so far, what is left. -/
theorem walkB_any (fid : Nat) (caps : Array Value) (n : Nat) (h0 : n ≠ 0) (hL : Go.bitLen n ≤ 256) (steps : Nat) (I : Nat → Nat → World → Prop) (w : World) (hst : steps ≤ 64)
    (hent : ∀ args w, (callFunc fid args).run Try.prog w = .ok (.enter fid args) w)
    (HCA : Hid (∀ C j wr, j < 64 → w.heap.size + 3 ≤ C → C ≤ wr.heap.size → I C j wr → Calls Try.prog fid (#[.int .i64 (dg16 n j)] ++ caps) wr fun e w' => e = .returned (.tuple #[]) ∧ I C (j + 1) w' ∧ KeptC w.heap.size C wr w'))
    (HAP : Hid (∀ C j wr wr', I C j wr → ApartC w.heap.size C wr wr' → I C j wr')) (HI0 : Hid (∀ C, w.heap.size + 3 ≤ C → I C 0 w)) :
    Calls Try.prog 26 #[.agg #[.int .u64 (dgl (up16 n) 0 : Nat), .int .u64 (dgl (up16 n) 1 : Nat), .int .u64 (dgl (up16 n) 2 : Nat), .int .u64 (dgl (up16 n) 3 : Nat), .int .u64 (dgl (up16 n) 4 : Nat), .int .u64 (dgl (up16 n) 5 : Nat), .int .u64 (dgl (up16 n) 6 : Nat), .int .u64 (dgl (up16 n) 7 : Nat)], .int .i64 (steps : Nat), .func (.func fid) #[] caps] w fun e w' => e = .returned (.tuple #[.agg #[.int .u64 (dgl (pn16 n steps) 0 : Nat), .int .u64 (dgl (pn16 n steps) 1 : Nat), .int .u64 (dgl (pn16 n steps) 2 : Nat), .int .u64 (dgl (pn16 n steps) 3 : Nat), .int .u64 (dgl (pn16 n steps) 4 : Nat), .int .u64 (dgl (pn16 n steps) 5 : Nat), .int .u64 (dgl (pn16 n steps) 6 : Nat), .int .u64 (dgl (pn16 n steps) 7 : Nat)], .agg #[.int .u64 (dgl (qz (lf16 n steps)) 0 : Nat), .int .u64 (dgl (qz (lf16 n steps)) 1 : Nat), .int .u64 (dgl (qz (lf16 n steps)) 2 : Nat), .int .u64 (dgl (qz (lf16 n steps)) 3 : Nat), .int .u64 (dgl (qz (lf16 n steps)) 4 : Nat), .int .u64 (dgl (qz (lf16 n steps)) 5 : Nat), .int .u64 (dgl (qz (lf16 n steps)) 6 : Nat), .int .u64 (dgl (qz (lf16 n steps)) 7 : Nat)]]) ∧ ∃ C, w.heap.size + 3 ≤ C ∧ I C steps w' := by
  have ok := ok16 n h0 hL
  have hu := up16_bd n h0 hL
  have hq : 2 ^ 256 < QQ := by decide +kernel
  have hq3 : 2 ^ 129 < QQ := by decide +kernel
  have hq4 : ((2 ^ 129 : Nat) : Int) < ((2 ^ 511 : Nat) : Int) := by decide +kernel
  have huq : up16 n < QQ := Nat.lt_trans hu.2 hq
  have hp0 : pn16 n 0 = 2 ^ 128 := show ((4 : Int) ^ (63 + 1)).toNat = 2 ^ 128 by decide +kernel
  have e256 : 2 ^ 128 * 2 ^ 128 = 2 ^ 256 := by decide +kernel
  have hy0 : subQ (up16 n) (2 ^ 256) = qz (lf16 n 0) := by
    have h := qz_sub ((up16 n : Nat) : Int) ((2 ^ 256 : Nat) : Int)
    rw [qz_nat huq, qz_nat hq] at h
    rw [h]
    unfold lf16
    rw [hp0, e256]
  refine walkB_walk fid caps (up16 n) (2 ^ 128) (2 ^ 256) (subQ (up16 n) (2 ^ 256)) _ (pn16 n) (lf16 n) (dg16 n) steps I w hst (hide hp0.symm) (hide hy0) (hide fun w => power_w 128 (by decide) w) (hide fun w => power_w 256 (by decide) w) (hide fun w => wideSub_any _ _ huq hq w) (hide fun j hj p8 p9 wr hne hS => ?_) hent HCA HAP HI0
  have hb := ok.bd j hj
  have hsh := ok.sh j (by omega)
  have hw := lf16_wide ok hu.2 j (by omega)
  have hP := pn16_lt ok j (by omega)
  have hP1 := pn16_lt ok (j + 1) (by omega)
  have hsm := div_bd (lf16 n j) (2 ^ (248 - 2 * j)) 4294967295 (Nat.two_pow_pos _) (ok.small j hj)
  have hPQ := Nat.lt_trans hP hq3
  have hP1Q := Nat.lt_trans hP1 hq3
  have HNX := hide (fun w => nextB_any j (pn16 n j) (lf16 n j) (by omega) hPQ (by omega) hsh.1 hsh.2 hw.1 hw.2 (by omega) (by omega) w)
  have hdg := ok.dg j hj
  have e2 : lf16 n j / ((2 ^ (248 - 2 * j) : Nat) : Int) = lf16 n j / 2 ^ (248 - 2 * j) := by simp
  rw [e2, ← hdg] at HNX
  have hpl : 126 - 2 * j = 2 * (63 - j) := by omega
  have HPW := hide (fun w => power_w (126 - 2 * j) (by omega) w)
  rw [wq_nat (2 ^ (126 - 2 * j))] at HPW
  have HSU := hide (fun v w hv => sum2_any ((pn16 n j : Nat) : Int) (dg16 n j * ((2 ^ (126 - 2 * j) : Nat) : Int)) v w hv)
  rw [← ok.step j hj, qz_nat hP1Q, qz_nat hPQ] at HSU
  have HSU2 := hide (fun v w hv => sum2_any ((pn16 n j : Nat) : Int) ((pn16 n (j + 1) : Nat) : Int) v w hv)
  rw [qz_nat hP1Q, qz_nat hPQ, ← Int.natCast_add] at HSU2
  have HSH := hide (fun w => wideShl_any (qz ((pn16 n j + pn16 n (j + 1) : Nat) : Int)) ((126 - 2 * j : Nat) : Int) (qz_lt _) w)
  rw [wq_shl _ _ (show 126 - 2 * j ≤ 512 by omega)] at HSH
  have HSB := hide (fun w => wideSub_any (qz (lf16 n j)) (qz (dg16 n j * (((pn16 n j + pn16 n (j + 1) : Nat) : Int) * ((2 ^ (126 - 2 * j) : Nat) : Int)))) (qz_lt _) (qz_lt _) w)
  rw [qz_sub, ← lf16_step ok j hj] at HSB
  exact stepB_walk j (63 - j) (126 - 2 * j) (pn16 n j) (qz (lf16 n j)) _ _ _ _ _ _ _ p8 p9 (dg16 n j) _ (by omega) rfl hpl hne HNX HPW (hide fun w => timesB_any _ _ hb.1 hb.2 w) HSU HSU2 HSH (hide fun w => timesB_any _ _ hb.1 hb.2 w) HSB wr hS

theorem idleBR_any (k : Int) (w : World) : Calls Try.prog 27 #[.int .i64 k] w fun e w' => e = .returned (.tuple #[]) ∧ w' = w := by
  go_enter Try.func27, Try.ntmps27
  go_wp2
  exact bodyPost_end (v := .tuple #[]) (by simp [results, Try.results27, go_sem]) rfl ⟨rfl, rfl⟩
theorem walkB_idleR (n : Nat) (h0 : n ≠ 0) (hL : Go.bitLen n ≤ 256) (steps : Nat) (w : World) (hst : steps ≤ 64) :
    Calls Try.prog 26 #[.agg #[.int .u64 (dgl (up16 n) 0 : Nat), .int .u64 (dgl (up16 n) 1 : Nat), .int .u64 (dgl (up16 n) 2 : Nat), .int .u64 (dgl (up16 n) 3 : Nat), .int .u64 (dgl (up16 n) 4 : Nat), .int .u64 (dgl (up16 n) 5 : Nat), .int .u64 (dgl (up16 n) 6 : Nat), .int .u64 (dgl (up16 n) 7 : Nat)], .int .i64 (steps : Nat), .func (.func 27) #[] #[]] w fun e w' => e = .returned (.tuple #[.agg #[.int .u64 (dgl (pn16 n steps) 0 : Nat), .int .u64 (dgl (pn16 n steps) 1 : Nat), .int .u64 (dgl (pn16 n steps) 2 : Nat), .int .u64 (dgl (pn16 n steps) 3 : Nat), .int .u64 (dgl (pn16 n steps) 4 : Nat), .int .u64 (dgl (pn16 n steps) 5 : Nat), .int .u64 (dgl (pn16 n steps) 6 : Nat), .int .u64 (dgl (pn16 n steps) 7 : Nat)], .agg #[.int .u64 (dgl (qz (lf16 n steps)) 0 : Nat), .int .u64 (dgl (qz (lf16 n steps)) 1 : Nat), .int .u64 (dgl (qz (lf16 n steps)) 2 : Nat), .int .u64 (dgl (qz (lf16 n steps)) 3 : Nat), .int .u64 (dgl (qz (lf16 n steps)) 4 : Nat), .int .u64 (dgl (qz (lf16 n steps)) 5 : Nat), .int .u64 (dgl (qz (lf16 n steps)) 6 : Nat), .int .u64 (dgl (qz (lf16 n steps)) 7 : Nat)]]) ∧ Below w.heap.size w w' := by
  refine (walkB_any 27 #[] n h0 hL steps (fun C j W => Below w.heap.size w W) w hst (enters_of Try.func27 (by kernel_rfl) rfl) (hide fun C j wr hj hC hs hI => ?_) (hide fun C j wr wr' hI hb => hb.under hI (Nat.le_refl _) (Nat.le_refl _)) (hide fun C hC => Below.refl _ _)).mono ?_
  · refine (idleBR_any (dg16 n j) wr).mono ?_
    rintro e w' ⟨rfl, rfl⟩
    exact ⟨rfl, hI, ⟨Nat.le_refl _, fun k _ _ => rfl⟩⟩
  · rintro e w' ⟨rfl, C, hC, hI⟩
    exact ⟨rfl, hI⟩

theorem idleBF_any (k : Int) (w : World) : Calls Try.prog 41 #[.int .i64 k] w fun e w' => e = .returned (.tuple #[]) ∧ w' = w := by
  go_enter Try.func41, Try.ntmps41
  go_wp2
  exact bodyPost_end (v := .tuple #[]) (by simp [results, Try.results41, go_sem]) rfl ⟨rfl, rfl⟩
theorem walkB_idleF (n : Nat) (h0 : n ≠ 0) (hL : Go.bitLen n ≤ 256) (steps : Nat) (w : World) (hst : steps ≤ 64) :
    Calls Try.prog 26 #[.agg #[.int .u64 (dgl (up16 n) 0 : Nat), .int .u64 (dgl (up16 n) 1 : Nat), .int .u64 (dgl (up16 n) 2 : Nat), .int .u64 (dgl (up16 n) 3 : Nat), .int .u64 (dgl (up16 n) 4 : Nat), .int .u64 (dgl (up16 n) 5 : Nat), .int .u64 (dgl (up16 n) 6 : Nat), .int .u64 (dgl (up16 n) 7 : Nat)], .int .i64 (steps : Nat), .func (.func 41) #[] #[]] w fun e w' => e = .returned (.tuple #[.agg #[.int .u64 (dgl (pn16 n steps) 0 : Nat), .int .u64 (dgl (pn16 n steps) 1 : Nat), .int .u64 (dgl (pn16 n steps) 2 : Nat), .int .u64 (dgl (pn16 n steps) 3 : Nat), .int .u64 (dgl (pn16 n steps) 4 : Nat), .int .u64 (dgl (pn16 n steps) 5 : Nat), .int .u64 (dgl (pn16 n steps) 6 : Nat), .int .u64 (dgl (pn16 n steps) 7 : Nat)], .agg #[.int .u64 (dgl (qz (lf16 n steps)) 0 : Nat), .int .u64 (dgl (qz (lf16 n steps)) 1 : Nat), .int .u64 (dgl (qz (lf16 n steps)) 2 : Nat), .int .u64 (dgl (qz (lf16 n steps)) 3 : Nat), .int .u64 (dgl (qz (lf16 n steps)) 4 : Nat), .int .u64 (dgl (qz (lf16 n steps)) 5 : Nat), .int .u64 (dgl (qz (lf16 n steps)) 6 : Nat), .int .u64 (dgl (qz (lf16 n steps)) 7 : Nat)]]) ∧ Below w.heap.size w w' := by
  refine (walkB_any 41 #[] n h0 hL steps (fun C j W => Below w.heap.size w W) w hst (enters_of Try.func41 (by kernel_rfl) rfl) (hide fun C j wr hj hC hs hI => ?_) (hide fun C j wr wr' hI hb => hb.under hI (Nat.le_refl _) (Nat.le_refl _)) (hide fun C hC => Below.refl _ _)).mono ?_
  · refine (idleBF_any (dg16 n j) wr).mono ?_
    rintro e w' ⟨rfl, rfl⟩
    exact ⟨rfl, hI, ⟨Nat.le_refl _, fun k _ _ => rfl⟩⟩
  · rintro e w' ⟨rfl, C, hC, hI⟩
    exact ⟨rfl, hI⟩

set_option maxHeartbeats 2000000 in
theorem dgB_any (b p7 base n : Nat) (xs : List Nat) (v : Value) (w : World) (hc : w.cell? ⟨p7, 0, none⟩ = some v) (hf : w.frozen? ⟨p7, 0, none⟩ = false) (hown : w.ownsRow base 3 1 v n (xs.map mkZ)) (hp : p7 < base) (hbase : base ≤ w.heap.size) (hn : n ≤ 1000) :
    Calls Try.prog 34 #[.int .i64 (zof b), .pointer (some ⟨p7, 0, none⟩)] w fun e w' => e = .returned (.tuple #[]) ∧ ∃ v', w'.cell? ⟨p7, 0, none⟩ = some v' ∧ w'.frozen? ⟨p7, 0, none⟩ = false ∧ w'.ownsRow base 3 1 v' (n + 1) ((xs ++ [b]).map mkZ) ∧ But p7 base w w' := by
  obtain ⟨i0, hi, hz0, hz1, hz2⟩ := info_parts int_infoA
  have HS : Hid (w.cell? ⟨p7, 0, none⟩ = some v ∧ w.frozen? ⟨p7, 0, none⟩ = false ∧ w.ownsRow base 3 1 v n (xs.map mkZ) ∧ Below base w w ∧ base ≤ w.heap.size) := ⟨hc, hf, hown, Below.refl _ _, hbase⟩
  clear hc hf hown hbase
  go_enter Try.func34, Try.ntmps34
  refine wp_gen (fun W => W.cell? ⟨p7, 0, none⟩ = some v ∧ W.frozen? ⟨p7, 0, none⟩ = false ∧ W.ownsRow base 3 1 v n (xs.map mkZ) ∧ Below base w W ∧ base ≤ W.heap.size) HS.out ?_
  clear HS
  rintro wr ⟨hc, hf, hown, hbel, hbase⟩
  go_wp2_with (at_builtin; (refine wpList_app1 w wr rfl _ _ 31 rfl base 3 i0 (.int .i64 0) 8 Try.underlying31 hi hz0 hz1 hz2 rfl mkZ _ _ _ (by rfl) hown hbel _ b rfl rfl (by rfl) (by omega) (by omega) (by omega) ?_); intro v' w1 hown1 hbel1; go_must (obtain ⟨g, cp, rfl, hg1, hg2, hg3⟩ := owns_form hown1 (by omega); have hc1 : w1.cell? ⟨p7, 0, none⟩ = some v := ((hbel1.cell (p := ⟨p7, 0, none⟩) hp).trans (hbel.cell (p := ⟨p7, 0, none⟩) hp).symm).trans hc; have hf1 : w1.frozen? ⟨p7, 0, none⟩ = false := ((hbel1.frozen (p := ⟨p7, 0, none⟩) hp).trans (hbel.frozen (p := ⟨p7, 0, none⟩) hp).symm).trans hf; clear hown hbel hc hf hbase))
  go_wp2
  refine bodyPost_end (v := .tuple #[]) (by simp [results, Try.results34, go_sem]) rfl ?_
  refine ⟨rfl, _, by simp [go_sem, hc1], by simpa [go_sem] using hf1, ownsRow_setCell_below hown1 hp _, ⟨hbel1.os, hbel1.tape, hbel1.output, by simpa [go_sem] using hbel1.size, fun k hk hne => (Below.heap_setCell _ _ _ _ hne).trans (hbel1.block k hk)⟩⟩

theorem walkB_digits (n : Nat) (h0 : n ≠ 0) (hL : Go.bitLen n ≤ 256) (w W : World) (p7 : Nat) (h1 : W.cell? ⟨p7, 0, none⟩ = some (.slice none 0 0)) (h2 : W.frozen? ⟨p7, 0, none⟩ = false) (h3 : p7 < W.heap.size) (h4 : w.heap.size ≤ p7) (h5 : Below w.heap.size w W) :
    Calls Try.prog 26 #[.agg #[.int .u64 (dgl (up16 n) 0 : Nat), .int .u64 (dgl (up16 n) 1 : Nat), .int .u64 (dgl (up16 n) 2 : Nat), .int .u64 (dgl (up16 n) 3 : Nat), .int .u64 (dgl (up16 n) 4 : Nat), .int .u64 (dgl (up16 n) 5 : Nat), .int .u64 (dgl (up16 n) 6 : Nat), .int .u64 (dgl (up16 n) 7 : Nat)], .int .i64 64, .func (.func 34) #[] #[.pointer (some ⟨p7, 0, none⟩)]] W fun e w' => ∃ r v, e = .returned r ∧ w'.cell? ⟨p7, 0, none⟩ = some v ∧ Rd mkZ w' v (seqL (dg16 n) 64) ∧ Below w.heap.size w w' := by
  have hsz := h5.size
  have ok := ok16 n h0 hL
  refine (walkB_any 34 #[.pointer (some ⟨p7, 0, none⟩)] n h0 hL 64 (fun C j V => DgA (dg16 n) W.heap.size C p7 j w V) W (by decide) (enters_of Try.func34 (by kernel_rfl) rfl) (hide fun C j wr hj hC hs hI => ?_) (hide fun C j wr wr' hI hb => hI.apart hb hsz) (hide fun C hC => ⟨⟨_, h1, h2, World.ownsRow_nil _ _ _ _⟩, h3, h5, h4, h3, by omega⟩)).mono ?_
  · obtain ⟨v, g1, g2, g3⟩ := hI.v
    have hb := ok.bd j hj
    have h := dgB_any (nof (dg16 n j)) p7 C j (seqL (dg16 n) j) v wr g1 g2 g3 (by omega) hs (by omega)
    rw [zof_nof (show -9223372036854775808 ≤ dg16 n j by omega)] at h
    refine h.mono ?_
    rintro e w' ⟨rfl, v', k1, k2, k3, k4⟩
    rw [← seqL_succ] at k3
    exact ⟨rfl, hI.but k4 v' k1 k2 k3, ⟨k4.size, fun k ha hb => k4.block k hb (by omega)⟩⟩
  · rintro e w' ⟨rfl, C, hC, hI⟩
    obtain ⟨v, g1, g2, g3⟩ := hI.v
    exact ⟨_, v, rfl, g1, Rd.of_owns (by rw [seqL_len]; exact g3), hI.bel⟩

theorem beyondB_walk (n : Nat) (z : Int) (b : Bool) (hb : decide (256 < z) = b) (HLN : Hid (∀ w, Calls Try.prog 43 #[.agg #[.int .u64 (dgl (n) 0 : Nat), .int .u64 (dgl (n) 1 : Nat), .int .u64 (dgl (n) 2 : Nat), .int .u64 (dgl (n) 3 : Nat), .int .u64 (dgl (n) 4 : Nat), .int .u64 (dgl (n) 5 : Nat), .int .u64 (dgl (n) 6 : Nat), .int .u64 (dgl (n) 7 : Nat)]] w fun e w' => e = .returned (.int .i64 z) ∧ Below w.heap.size w w')) (w : World) :
    Calls Try.prog 42 #[.agg #[.int .u64 (dgl (n) 0 : Nat), .int .u64 (dgl (n) 1 : Nat), .int .u64 (dgl (n) 2 : Nat), .int .u64 (dgl (n) 3 : Nat), .int .u64 (dgl (n) 4 : Nat), .int .u64 (dgl (n) 5 : Nat), .int .u64 (dgl (n) 6 : Nat), .int .u64 (dgl (n) 7 : Nat)]] w fun e w' => e = .returned (.bool b) ∧ Below w.heap.size w w' := by
  have HB := hide (below_allocs w (.cells #[.int .u64 (dgl (n) 0 : Nat), .int .u64 (dgl (n) 1 : Nat), .int .u64 (dgl (n) 2 : Nat), .int .u64 (dgl (n) 3 : Nat), .int .u64 (dgl (n) 4 : Nat), .int .u64 (dgl (n) 5 : Nat), .int .u64 (dgl (n) 6 : Nat), .int .u64 (dgl (n) 7 : Nat)] 24))
  have hl := (liesF_new w (dgl n) 24).1
  go_enter Try.func42, Try.ntmps42
  go_wp2_with fail
  refine (HLN.out _).mono ?_
  rintro e w5 ⟨rfl, hb5⟩
  replace HB := hide (below_trans HB.out hb5)
  clear hb5 hl
  go_wp2
  exact bodyPost_ret (v := .bool b) (by simp [results, Try.results42, go_sem, hb]) rfl ⟨rfl, HB.out⟩
theorem beyondB_any (n : Nat) (hn : n < QQ) (w : World) : Calls Try.prog 42 #[.agg #[.int .u64 (dgl (n) 0 : Nat), .int .u64 (dgl (n) 1 : Nat), .int .u64 (dgl (n) 2 : Nat), .int .u64 (dgl (n) 3 : Nat), .int .u64 (dgl (n) 4 : Nat), .int .u64 (dgl (n) 5 : Nat), .int .u64 (dgl (n) 6 : Nat), .int .u64 (dgl (n) 7 : Nat)]] w fun e w' => e = .returned (.bool (decide (256 < Go.bitLen n))) ∧ Below w.heap.size w w' :=
  beyondB_walk n ((Go.bitLen n : Nat) : Int) _ (by rw [decide_eq_decide]; omega) (hide fun w => wideLen_any n hn w) w
theorem unnormedB_walk (n : Nat) (b : Bool) (HBY : Hid (∀ w, Calls Try.prog 42 #[.agg #[.int .u64 (dgl (n) 0 : Nat), .int .u64 (dgl (n) 1 : Nat), .int .u64 (dgl (n) 2 : Nat), .int .u64 (dgl (n) 3 : Nat), .int .u64 (dgl (n) 4 : Nat), .int .u64 (dgl (n) 5 : Nat), .int .u64 (dgl (n) 6 : Nat), .int .u64 (dgl (n) 7 : Nat)]] w fun e w' => e = .returned (.bool b) ∧ Below w.heap.size w w')) (w : World) :
    Calls Try.prog 25 #[.agg #[.int .u64 (dgl (n) 0 : Nat), .int .u64 (dgl (n) 1 : Nat), .int .u64 (dgl (n) 2 : Nat), .int .u64 (dgl (n) 3 : Nat), .int .u64 (dgl (n) 4 : Nat), .int .u64 (dgl (n) 5 : Nat), .int .u64 (dgl (n) 6 : Nat), .int .u64 (dgl (n) 7 : Nat)]] w fun e w' => e = .returned (.int .i64 (if b then 4 else 0)) ∧ Below w.heap.size w w' := by
  have HB := hide (below_allocs w (.cells #[.int .u64 (dgl (n) 0 : Nat), .int .u64 (dgl (n) 1 : Nat), .int .u64 (dgl (n) 2 : Nat), .int .u64 (dgl (n) 3 : Nat), .int .u64 (dgl (n) 4 : Nat), .int .u64 (dgl (n) 5 : Nat), .int .u64 (dgl (n) 6 : Nat), .int .u64 (dgl (n) 7 : Nat)] 24))
  have hl := (liesF_new w (dgl n) 24).1
  go_enter Try.func25, Try.ntmps25
  go_wp2_with fail
  refine (HBY.out _).mono ?_
  rintro e w5 ⟨rfl, hb5⟩
  replace HB := hide (below_trans HB.out hb5)
  clear hb5 hl
  cases b
  · go_wp2
    exact bodyPost_ret (v := .int .i64 0) (by simp [results, Try.results25, go_sem]) rfl ⟨rfl, HB.out⟩
  · go_wp2
    exact bodyPost_ret (v := .int .i64 4) (by simp [results, Try.results25, go_sem]) rfl ⟨rfl, HB.out⟩
theorem unnormedB_any (n : Nat) (hn : n < QQ) (w : World) : Calls Try.prog 25 #[.agg #[.int .u64 (dgl (n) 0 : Nat), .int .u64 (dgl (n) 1 : Nat), .int .u64 (dgl (n) 2 : Nat), .int .u64 (dgl (n) 3 : Nat), .int .u64 (dgl (n) 4 : Nat), .int .u64 (dgl (n) 5 : Nat), .int .u64 (dgl (n) 6 : Nat), .int .u64 (dgl (n) 7 : Nat)]] w fun e w' => e = .returned (.int .i64 (if 256 < Go.bitLen n then 4 else 0)) ∧ Below w.heap.size w w' := by
  have h := unnormedB_walk n _ (hide fun w => beyondB_any n hn w) w
  simpa using h

set_option maxHeartbeats 1000000 in
theorem normB_Z (n : Nat) (hq : ∀ w, (Op.equalIn 10000 24 (.agg #[.int .u64 (dgl (n) 0 : Nat), .int .u64 (dgl (n) 1 : Nat), .int .u64 (dgl (n) 2 : Nat), .int .u64 (dgl (n) 3 : Nat), .int .u64 (dgl (n) 4 : Nat), .int .u64 (dgl (n) 5 : Nat), .int .u64 (dgl (n) 6 : Nat), .int .u64 (dgl (n) 7 : Nat)]) (.agg #[.int .u64 0, .int .u64 0, .int .u64 0, .int .u64 0, .int .u64 0, .int .u64 0, .int .u64 0, .int .u64 0])).run Try.prog w = .ok true w) (w : World) :
    Calls Try.prog 15 #[.agg #[.int .u64 (dgl (n) 0 : Nat), .int .u64 (dgl (n) 1 : Nat), .int .u64 (dgl (n) 2 : Nat), .int .u64 (dgl (n) 3 : Nat), .int .u64 (dgl (n) 4 : Nat), .int .u64 (dgl (n) 5 : Nat), .int .u64 (dgl (n) 6 : Nat), .int .u64 (dgl (n) 7 : Nat)]] w fun e w' => e = .returned (.tuple #[.agg #[.int .u64 0, .int .u64 0, .int .u64 0, .int .u64 0, .int .u64 0, .int .u64 0, .int .u64 0, .int .u64 0], .int .i64 0, .bool false]) ∧ Below w.heap.size w w' := by
  have HS := hide (tm_start w n 24 24)
  go_enter Try.func15, Try.ntmps15
  go_upto_region 1 with fail
  refine wp_gen (fun W => TmSt n w W) ?_ ?_
  · exact HS.out
  clear HS
  rintro W1 h1
  have HS := hide h1
  have hl := h1.lx.1
  clear h1
  have hr1 := HS.out.lr.1
  have hrl1 := HS.out.lr.2
  have hrf1 := HS.out.fr
  have HBE := hide HS.out.bel
  clear HS
  go_wp2
  exact bodyPost_ret (v := .tuple #[.agg #[.int .u64 0, .int .u64 0, .int .u64 0, .int .u64 0, .int .u64 0, .int .u64 0, .int .u64 0, .int .u64 0], .int .i64 0, .bool false]) (by simp [results, Try.results15, go_sem, hr1, hrl1]) rfl ⟨rfl, below_set8 HBE.out _ (by omega) _ _ _ _ _ _ _ _⟩

set_option maxHeartbeats 1000000 in
theorem normB_L (n : Nat) (hq : ∀ w, (Op.equalIn 10000 24 (.agg #[.int .u64 (dgl (n) 0 : Nat), .int .u64 (dgl (n) 1 : Nat), .int .u64 (dgl (n) 2 : Nat), .int .u64 (dgl (n) 3 : Nat), .int .u64 (dgl (n) 4 : Nat), .int .u64 (dgl (n) 5 : Nat), .int .u64 (dgl (n) 6 : Nat), .int .u64 (dgl (n) 7 : Nat)]) (.agg #[.int .u64 0, .int .u64 0, .int .u64 0, .int .u64 0, .int .u64 0, .int .u64 0, .int .u64 0, .int .u64 0])).run Try.prog w = .ok false w)
    (HBY : Hid (∀ w, Calls Try.prog 42 #[.agg #[.int .u64 (dgl (n) 0 : Nat), .int .u64 (dgl (n) 1 : Nat), .int .u64 (dgl (n) 2 : Nat), .int .u64 (dgl (n) 3 : Nat), .int .u64 (dgl (n) 4 : Nat), .int .u64 (dgl (n) 5 : Nat), .int .u64 (dgl (n) 6 : Nat), .int .u64 (dgl (n) 7 : Nat)]] w fun e w' => e = .returned (.bool true) ∧ Below w.heap.size w w')) (w : World) :
    Calls Try.prog 15 #[.agg #[.int .u64 (dgl (n) 0 : Nat), .int .u64 (dgl (n) 1 : Nat), .int .u64 (dgl (n) 2 : Nat), .int .u64 (dgl (n) 3 : Nat), .int .u64 (dgl (n) 4 : Nat), .int .u64 (dgl (n) 5 : Nat), .int .u64 (dgl (n) 6 : Nat), .int .u64 (dgl (n) 7 : Nat)]] w fun e w' => e = .returned (.tuple #[.agg #[.int .u64 0, .int .u64 0, .int .u64 0, .int .u64 0, .int .u64 0, .int .u64 0, .int .u64 0, .int .u64 0], .int .i64 0, .bool false]) ∧ Below w.heap.size w w' := by
  have HS := hide (tm_start w n 24 24)
  go_enter Try.func15, Try.ntmps15
  go_upto_region 1 with fail
  refine wp_gen (fun W => TmSt n w W) ?_ ?_
  · exact HS.out
  clear HS
  rintro W1 h1
  have HS := hide h1
  have hl := h1.lx.1
  clear h1
  go_wp2_with fail
  refine (HBY.out _).mono ?_
  rintro e w2 ⟨rfl, hb2⟩
  replace HS := hide (HS.out.below hb2)
  clear hb2 hl HBY
  have hr1 := HS.out.lr.1
  have hrl1 := HS.out.lr.2
  have hrf1 := HS.out.fr
  have HBE := hide HS.out.bel
  clear HS
  go_wp2
  exact bodyPost_ret (v := .tuple #[.agg #[.int .u64 0, .int .u64 0, .int .u64 0, .int .u64 0, .int .u64 0, .int .u64 0, .int .u64 0, .int .u64 0], .int .i64 0, .bool false]) (by simp [results, Try.results15, go_sem, hr1, hrl1]) rfl ⟨rfl, below_set8 HBE.out _ (by omega) _ _ _ _ _ _ _ _⟩

set_option maxHeartbeats 1000000 in
theorem normB_Y (n : Nat) (z0 z X m b : Nat) (hz0 : z0 ≤ 256) (hz : IntKind.i64.wrap (256 - (z0 : Int)) = (z : Int)) (hm : (z : Int).tdiv 2 = (m : Int)) (hb : IntKind.i64.wrap ((m : Int) * 2) = (b : Int)) (hzb : z ≤ 256) (hmb : m ≤ 128) (hq : ∀ w, (Op.equalIn 10000 24 (.agg #[.int .u64 (dgl (n) 0 : Nat), .int .u64 (dgl (n) 1 : Nat), .int .u64 (dgl (n) 2 : Nat), .int .u64 (dgl (n) 3 : Nat), .int .u64 (dgl (n) 4 : Nat), .int .u64 (dgl (n) 5 : Nat), .int .u64 (dgl (n) 6 : Nat), .int .u64 (dgl (n) 7 : Nat)]) (.agg #[.int .u64 0, .int .u64 0, .int .u64 0, .int .u64 0, .int .u64 0, .int .u64 0, .int .u64 0, .int .u64 0])).run Try.prog w = .ok false w)
    (HBY : Hid (∀ w, Calls Try.prog 42 #[.agg #[.int .u64 (dgl (n) 0 : Nat), .int .u64 (dgl (n) 1 : Nat), .int .u64 (dgl (n) 2 : Nat), .int .u64 (dgl (n) 3 : Nat), .int .u64 (dgl (n) 4 : Nat), .int .u64 (dgl (n) 5 : Nat), .int .u64 (dgl (n) 6 : Nat), .int .u64 (dgl (n) 7 : Nat)]] w fun e w' => e = .returned (.bool false) ∧ Below w.heap.size w w'))
    (HLN : Hid (∀ w, Calls Try.prog 43 #[.agg #[.int .u64 (dgl (n) 0 : Nat), .int .u64 (dgl (n) 1 : Nat), .int .u64 (dgl (n) 2 : Nat), .int .u64 (dgl (n) 3 : Nat), .int .u64 (dgl (n) 4 : Nat), .int .u64 (dgl (n) 5 : Nat), .int .u64 (dgl (n) 6 : Nat), .int .u64 (dgl (n) 7 : Nat)]] w fun e w' => e = .returned (.int .i64 (z0 : Nat)) ∧ Below w.heap.size w w'))
    (HSH : Hid (∀ w, Calls Try.prog 44 #[.agg #[.int .u64 (dgl (n) 0 : Nat), .int .u64 (dgl (n) 1 : Nat), .int .u64 (dgl (n) 2 : Nat), .int .u64 (dgl (n) 3 : Nat), .int .u64 (dgl (n) 4 : Nat), .int .u64 (dgl (n) 5 : Nat), .int .u64 (dgl (n) 6 : Nat), .int .u64 (dgl (n) 7 : Nat)], .int .i64 (b : Nat)] w fun e w' => e = .returned (.agg #[.int .u64 (dgl (X) 0 : Nat), .int .u64 (dgl (X) 1 : Nat), .int .u64 (dgl (X) 2 : Nat), .int .u64 (dgl (X) 3 : Nat), .int .u64 (dgl (X) 4 : Nat), .int .u64 (dgl (X) 5 : Nat), .int .u64 (dgl (X) 6 : Nat), .int .u64 (dgl (X) 7 : Nat)]) ∧ Below w.heap.size w w')) (w : World) :
    Calls Try.prog 15 #[.agg #[.int .u64 (dgl (n) 0 : Nat), .int .u64 (dgl (n) 1 : Nat), .int .u64 (dgl (n) 2 : Nat), .int .u64 (dgl (n) 3 : Nat), .int .u64 (dgl (n) 4 : Nat), .int .u64 (dgl (n) 5 : Nat), .int .u64 (dgl (n) 6 : Nat), .int .u64 (dgl (n) 7 : Nat)]] w fun e w' => e = .returned (.tuple #[.agg #[.int .u64 (dgl (X) 0 : Nat), .int .u64 (dgl (X) 1 : Nat), .int .u64 (dgl (X) 2 : Nat), .int .u64 (dgl (X) 3 : Nat), .int .u64 (dgl (X) 4 : Nat), .int .u64 (dgl (X) 5 : Nat), .int .u64 (dgl (X) 6 : Nat), .int .u64 (dgl (X) 7 : Nat)], .int .i64 (b : Nat), .bool true]) ∧ Below w.heap.size w w' := by
  have HS := hide (tm_start w n 24 24)
  go_enter Try.func15, Try.ntmps15
  go_upto_region 1 with fail
  refine wp_gen (fun W => TmSt n w W) ?_ ?_
  · exact HS.out
  clear HS
  rintro W1 h1
  have HS := hide h1
  have hl := h1.lx.1
  clear h1
  go_wp2_with fail
  refine (HBY.out _).mono ?_
  rintro e w2 ⟨rfl, hb2⟩
  replace HS := hide (HS.out.below hb2)
  clear hb2 hl HBY
  have hl := HS.out.lx.1
  go_wp2_with fail
  refine (HLN.out _).mono ?_
  rintro e w3 ⟨rfl, hb3⟩
  replace HS := hide (HS.out.below hb3)
  clear hb3 hl HLN
  have hl := HS.out.lx.1
  go_wp2_with fail
  refine (HSH.out _).mono ?_
  rintro e w4 ⟨rfl, hb4⟩
  replace HS := hide (HS.out.below hb4)
  clear hb4 hl HSH
  have hr1 := HS.out.lr.1
  have hrl1 := HS.out.lr.2
  have hrf1 := HS.out.fr
  have HBE := hide HS.out.bel
  clear HS
  go_wp2
  exact bodyPost_ret (v := .tuple #[.agg #[.int .u64 (dgl (X) 0 : Nat), .int .u64 (dgl (X) 1 : Nat), .int .u64 (dgl (X) 2 : Nat), .int .u64 (dgl (X) 3 : Nat), .int .u64 (dgl (X) 4 : Nat), .int .u64 (dgl (X) 5 : Nat), .int .u64 (dgl (X) 6 : Nat), .int .u64 (dgl (X) 7 : Nat)], .int .i64 (b : Nat), .bool true]) (by simp [results, Try.results15, go_sem, hr1, hrl1]) rfl ⟨rfl, below_set8 HBE.out _ (by omega) _ _ _ _ _ _ _ _⟩

theorem normB_no (n : Nat) (hn : n < QQ) (h : n = 0 ∨ 256 < Go.bitLen n) (w : World) :
    Calls Try.prog 15 #[.agg #[.int .u64 (dgl (n) 0 : Nat), .int .u64 (dgl (n) 1 : Nat), .int .u64 (dgl (n) 2 : Nat), .int .u64 (dgl (n) 3 : Nat), .int .u64 (dgl (n) 4 : Nat), .int .u64 (dgl (n) 5 : Nat), .int .u64 (dgl (n) 6 : Nat), .int .u64 (dgl (n) 7 : Nat)]] w fun e w' => e = .returned (.tuple #[.agg #[.int .u64 0, .int .u64 0, .int .u64 0, .int .u64 0, .int .u64 0, .int .u64 0, .int .u64 0, .int .u64 0], .int .i64 0, .bool false]) ∧ Below w.heap.size w w' := by
  by_cases h0 : n = 0
  · exact normB_Z n (fun w => by have h := wide_eqz hn w; rwa [decide_eq_true h0] at h) w
  · have hb : 256 < Go.bitLen n := by omega
    have HBY := hide (fun w => beyondB_any n hn w)
    rw [decide_eq_true hb] at HBY
    exact normB_L n (fun w => by have h := wide_eqz hn w; rwa [decide_eq_false h0] at h) HBY w
theorem normB_yes (n : Nat) (hn : n < QQ) (h0 : n ≠ 0) (hL : Go.bitLen n ≤ 256) (w : World) :
    Calls Try.prog 15 #[.agg #[.int .u64 (dgl (n) 0 : Nat), .int .u64 (dgl (n) 1 : Nat), .int .u64 (dgl (n) 2 : Nat), .int .u64 (dgl (n) 3 : Nat), .int .u64 (dgl (n) 4 : Nat), .int .u64 (dgl (n) 5 : Nat), .int .u64 (dgl (n) 6 : Nat), .int .u64 (dgl (n) 7 : Nat)]] w fun e w' => e = .returned (.tuple #[.agg #[.int .u64 (dgl (up16 n) 0 : Nat), .int .u64 (dgl (up16 n) 1 : Nat), .int .u64 (dgl (up16 n) 2 : Nat), .int .u64 (dgl (up16 n) 3 : Nat), .int .u64 (dgl (up16 n) 4 : Nat), .int .u64 (dgl (up16 n) 5 : Nat), .int .u64 (dgl (up16 n) 6 : Nat), .int .u64 (dgl (up16 n) 7 : Nat)], .int .i64 ((2 * nb16 n : Nat) : Int), .bool true]) ∧ Below w.heap.size w w' := by
  have HBY := hide (fun w => beyondB_any n hn w)
  rw [decide_eq_false (show ¬ 256 < Go.bitLen n by omega)] at HBY
  have hnb : nb16 n = (256 - Go.bitLen n) / 2 := rfl
  refine normB_Y n (Go.bitLen n) (256 - Go.bitLen n) (up16 n) (nb16 n) (2 * nb16 n) hL (by rw [IntKind.wrap_i64]; omega) (by rw [Int.tdiv_eq_ediv_of_nonneg (by omega)]; omega) (by rw [IntKind.wrap_i64]; omega) (by omega) (by omega) (fun w => by have h := wide_eqz hn w; rwa [decide_eq_false h0] at h) HBY (hide fun w => wideLen_any n hn w) (hide fun w => ?_) w
  have h := wideShl_any n ((2 * nb16 n : Nat) : Int) hn w
  rw [show roomI ((2 * nb16 n : Nat) : Int) = ((2 * nb16 n : Nat) : Int) by unfold roomI; omega, sh_up] at h
  exact h
end Go.Proofs.Ytbngaajhdaciaaa

/- Contracts: srtroot.Far, Digits. -/
set_option linter.unusedVariables false
set_option linter.unusedSimpArgs false
set_option maxRecDepth 8000
namespace Go.Proofs.Ytbngaajhdaciaaa
open Go.RowKit Plain

set_option maxHeartbeats 1000000 in
theorem farB_far (n : Nat) (s : Int) (hs : s < 0 ∨ 64 < s) (w : World) :
    Calls Try.prog 14 #[.agg #[.int .u64 (dgl (n) 0 : Nat), .int .u64 (dgl (n) 1 : Nat), .int .u64 (dgl (n) 2 : Nat), .int .u64 (dgl (n) 3 : Nat), .int .u64 (dgl (n) 4 : Nat), .int .u64 (dgl (n) 5 : Nat), .int .u64 (dgl (n) 6 : Nat), .int .u64 (dgl (n) 7 : Nat)], .int .i64 s] w fun e w' => e = .returned (.tuple #[.agg #[.int .u64 0, .int .u64 0, .int .u64 0, .int .u64 0, .int .u64 0, .int .u64 0, .int .u64 0, .int .u64 0], .int .i64 4]) ∧ Below w.heap.size w w' := by
  have HS := hide (tm_start w n 24 24)
  have HZ := hide hs
  clear hs
  go_enter Try.func14, Try.ntmps14
  go_upto_region 1 with fail
  refine wp_gen (fun W => TmSt n w W) ?_ ?_
  · exact HS.out
  clear HS
  rintro W1 h1
  have HS := hide h1
  clear h1
  rcases HZ.out with h | h
  · skip
    have hr1 := HS.out.lr.1
    have hrl1 := HS.out.lr.2
    have hrf1 := HS.out.fr
    have HBE := hide HS.out.bel
    clear HS
    go_wp2
    exact bodyPost_ret (v := .tuple #[.agg #[.int .u64 0, .int .u64 0, .int .u64 0, .int .u64 0, .int .u64 0, .int .u64 0, .int .u64 0, .int .u64 0], .int .i64 4]) (by simp [results, Try.results14, go_sem, hr1, hrl1]) rfl ⟨rfl, below_set8 HBE.out _ (by omega) _ _ _ _ _ _ _ _⟩
  · have h0 : ¬ s < 0 := by omega
    have hr1 := HS.out.lr.1
    have hrl1 := HS.out.lr.2
    have hrf1 := HS.out.fr
    have HBE := hide HS.out.bel
    clear HS
    go_wp2
    exact bodyPost_ret (v := .tuple #[.agg #[.int .u64 0, .int .u64 0, .int .u64 0, .int .u64 0, .int .u64 0, .int .u64 0, .int .u64 0, .int .u64 0], .int .i64 4]) (by simp [results, Try.results14, go_sem, hr1, hrl1]) rfl ⟨rfl, below_set8 HBE.out _ (by omega) _ _ _ _ _ _ _ _⟩

set_option maxHeartbeats 1000000 in
theorem farB_no (n : Nat) (s ez : Int) (hs : 0 ≤ s) (hs2 : s ≤ 64) (HNO : Hid (∀ w, Calls Try.prog 15 #[.agg #[.int .u64 (dgl (n) 0 : Nat), .int .u64 (dgl (n) 1 : Nat), .int .u64 (dgl (n) 2 : Nat), .int .u64 (dgl (n) 3 : Nat), .int .u64 (dgl (n) 4 : Nat), .int .u64 (dgl (n) 5 : Nat), .int .u64 (dgl (n) 6 : Nat), .int .u64 (dgl (n) 7 : Nat)]] w fun e w' => e = .returned (.tuple #[.agg #[.int .u64 0, .int .u64 0, .int .u64 0, .int .u64 0, .int .u64 0, .int .u64 0, .int .u64 0, .int .u64 0], .int .i64 0, .bool false]) ∧ Below w.heap.size w w'))
    (HUN : Hid (∀ w, Calls Try.prog 25 #[.agg #[.int .u64 (dgl (n) 0 : Nat), .int .u64 (dgl (n) 1 : Nat), .int .u64 (dgl (n) 2 : Nat), .int .u64 (dgl (n) 3 : Nat), .int .u64 (dgl (n) 4 : Nat), .int .u64 (dgl (n) 5 : Nat), .int .u64 (dgl (n) 6 : Nat), .int .u64 (dgl (n) 7 : Nat)]] w fun e w' => e = .returned (.int .i64 ez) ∧ Below w.heap.size w w')) (w : World) :
    Calls Try.prog 14 #[.agg #[.int .u64 (dgl (n) 0 : Nat), .int .u64 (dgl (n) 1 : Nat), .int .u64 (dgl (n) 2 : Nat), .int .u64 (dgl (n) 3 : Nat), .int .u64 (dgl (n) 4 : Nat), .int .u64 (dgl (n) 5 : Nat), .int .u64 (dgl (n) 6 : Nat), .int .u64 (dgl (n) 7 : Nat)], .int .i64 s] w fun e w' => e = .returned (.tuple #[.agg #[.int .u64 0, .int .u64 0, .int .u64 0, .int .u64 0, .int .u64 0, .int .u64 0, .int .u64 0, .int .u64 0], .int .i64 ez]) ∧ Below w.heap.size w w' := by
  have HS := hide (tm_start w n 24 24)
  have h0 : ¬ s < 0 := by omega
  have h2 : ¬ 64 < s := by omega
  go_enter Try.func14, Try.ntmps14
  go_upto_region 1 with fail
  refine wp_gen (fun W => TmSt n w W) ?_ ?_
  · exact HS.out
  clear HS
  rintro W1 h1
  have HS := hide h1
  have hl := h1.lx.1
  clear h1
  go_wp2_with fail
  refine (HNO.out _).mono ?_
  rintro e w2 ⟨rfl, hb2⟩
  replace HS := hide (HS.out.below hb2)
  clear hb2 hl HNO
  go_upto_region 4 with fail
  refine wp_gen (fun W => TmSt n w W) (HS.out.below (below_allocs _ _)) ?_
  clear HS
  rintro W4 h4
  have HS := hide h4
  have hl := h4.lx.1
  clear h4
  go_wp2_with fail
  refine (HUN.out _).mono ?_
  rintro e w5 ⟨rfl, hb5⟩
  replace HS := hide (HS.out.below hb5)
  clear hb5 hl HUN
  have hr1 := HS.out.lr.1
  have hrl1 := HS.out.lr.2
  have hrf1 := HS.out.fr
  have HBE := hide HS.out.bel
  clear HS
  go_wp2
  exact bodyPost_ret (v := .tuple #[.agg #[.int .u64 0, .int .u64 0, .int .u64 0, .int .u64 0, .int .u64 0, .int .u64 0, .int .u64 0, .int .u64 0], .int .i64 ez]) (by simp [results, Try.results14, go_sem, hr1, hrl1]) rfl ⟨rfl, below_set8 HBE.out _ (by omega) _ _ _ _ _ _ _ _⟩

set_option maxHeartbeats 2000000 in
theorem farB_yes (n X x y steps : Nat) (b : Int) (hst : steps ≤ 64) (HNO : Hid (∀ w, Calls Try.prog 15 #[.agg #[.int .u64 (dgl (n) 0 : Nat), .int .u64 (dgl (n) 1 : Nat), .int .u64 (dgl (n) 2 : Nat), .int .u64 (dgl (n) 3 : Nat), .int .u64 (dgl (n) 4 : Nat), .int .u64 (dgl (n) 5 : Nat), .int .u64 (dgl (n) 6 : Nat), .int .u64 (dgl (n) 7 : Nat)]] w fun e w' => e = .returned (.tuple #[.agg #[.int .u64 (dgl (X) 0 : Nat), .int .u64 (dgl (X) 1 : Nat), .int .u64 (dgl (X) 2 : Nat), .int .u64 (dgl (X) 3 : Nat), .int .u64 (dgl (X) 4 : Nat), .int .u64 (dgl (X) 5 : Nat), .int .u64 (dgl (X) 6 : Nat), .int .u64 (dgl (X) 7 : Nat)], .int .i64 b, .bool true]) ∧ Below w.heap.size w w'))
    (HWK : Hid (∀ w, Calls Try.prog 26 #[.agg #[.int .u64 (dgl (X) 0 : Nat), .int .u64 (dgl (X) 1 : Nat), .int .u64 (dgl (X) 2 : Nat), .int .u64 (dgl (X) 3 : Nat), .int .u64 (dgl (X) 4 : Nat), .int .u64 (dgl (X) 5 : Nat), .int .u64 (dgl (X) 6 : Nat), .int .u64 (dgl (X) 7 : Nat)], .int .i64 (steps : Nat), .func (.func 41) #[] #[]] w fun e w' => e = .returned (.tuple #[.agg #[.int .u64 (dgl (x) 0 : Nat), .int .u64 (dgl (x) 1 : Nat), .int .u64 (dgl (x) 2 : Nat), .int .u64 (dgl (x) 3 : Nat), .int .u64 (dgl (x) 4 : Nat), .int .u64 (dgl (x) 5 : Nat), .int .u64 (dgl (x) 6 : Nat), .int .u64 (dgl (x) 7 : Nat)], .agg #[.int .u64 (dgl (y) 0 : Nat), .int .u64 (dgl (y) 1 : Nat), .int .u64 (dgl (y) 2 : Nat), .int .u64 (dgl (y) 3 : Nat), .int .u64 (dgl (y) 4 : Nat), .int .u64 (dgl (y) 5 : Nat), .int .u64 (dgl (y) 6 : Nat), .int .u64 (dgl (y) 7 : Nat)]]) ∧ Below w.heap.size w w')) (w : World) :
    Calls Try.prog 14 #[.agg #[.int .u64 (dgl (n) 0 : Nat), .int .u64 (dgl (n) 1 : Nat), .int .u64 (dgl (n) 2 : Nat), .int .u64 (dgl (n) 3 : Nat), .int .u64 (dgl (n) 4 : Nat), .int .u64 (dgl (n) 5 : Nat), .int .u64 (dgl (n) 6 : Nat), .int .u64 (dgl (n) 7 : Nat)], .int .i64 (steps : Nat)] w fun e w' => e = .returned (.tuple #[.agg #[.int .u64 (dgl (x) 0 : Nat), .int .u64 (dgl (x) 1 : Nat), .int .u64 (dgl (x) 2 : Nat), .int .u64 (dgl (x) 3 : Nat), .int .u64 (dgl (x) 4 : Nat), .int .u64 (dgl (x) 5 : Nat), .int .u64 (dgl (x) 6 : Nat), .int .u64 (dgl (x) 7 : Nat)], .int .i64 0]) ∧ Below w.heap.size w w' := by
  have HS := hide (tm_start w n 24 24)
  have h0 : ¬ (steps : Int) < 0 := by omega
  have h2 : ¬ 64 < (steps : Int) := by omega
  go_enter Try.func14, Try.ntmps14
  go_upto_region 1 with fail
  refine wp_gen (fun W => TmSt n w W) ?_ ?_
  · exact HS.out
  clear HS
  rintro W1 h1
  have HS := hide h1
  have hl := h1.lx.1
  clear h1
  go_wp2_with fail
  refine (HNO.out _).mono ?_
  rintro e w2 ⟨rfl, hb2⟩
  replace HS := hide (HS.out.below hb2)
  clear hb2 hl HNO
  go_upto_region 4 with fail
  refine wp_gen (fun W => TmSt n w W ∧ LiesF W w2.heap.size (dgl X)) ⟨HS.out.below (below_allocs _ _), liesF_new w2 (dgl X) _⟩ ?_
  clear HS
  generalize w2.heap.size = p6 at *
  rintro W4 h4
  have HS := hide h4
  have hl := h4.2.1
  clear h4
  go_wp2_with fail
  refine (HWK.out _).mono ?_
  rintro e w5 ⟨rfl, hb5⟩
  replace HS := hide (HS.out.1.below hb5)
  clear hb5 hl HWK
  go_upto_region 7 with fail
  have hbw := below_trans (below_allocs w5 (.cells #[.int .u64 (dgl (x) 0 : Nat), .int .u64 (dgl (x) 1 : Nat), .int .u64 (dgl (x) 2 : Nat), .int .u64 (dgl (x) 3 : Nat), .int .u64 (dgl (x) 4 : Nat), .int .u64 (dgl (x) 5 : Nat), .int .u64 (dgl (x) 6 : Nat), .int .u64 (dgl (x) 7 : Nat)] 24)) (below_allocs _ (.cells #[.int .u64 (dgl (y) 0 : Nat), .int .u64 (dgl (y) 1 : Nat), .int .u64 (dgl (y) 2 : Nat), .int .u64 (dgl (y) 3 : Nat), .int .u64 (dgl (y) 4 : Nat), .int .u64 (dgl (y) 5 : Nat), .int .u64 (dgl (y) 6 : Nat), .int .u64 (dgl (y) 7 : Nat)] 24))
  refine wp_gen (fun W => TmSt n w W ∧ LiesF W w5.heap.size (dgl x)) ⟨HS.out.below hbw, (liesF_new w5 (dgl x) _).alloc _⟩ ?_
  clear HS hbw
  generalize w5.heap.size = p9 at *
  rintro W7 h7
  have HS := hide h7.1
  have hl := h7.2.1
  clear h7
  have hr1 := HS.out.lr.1
  have hrl1 := HS.out.lr.2
  have hrf1 := HS.out.fr
  have HBE := hide HS.out.bel
  clear HS
  go_wp2
  exact bodyPost_ret (v := .tuple #[.agg #[.int .u64 (dgl (x) 0 : Nat), .int .u64 (dgl (x) 1 : Nat), .int .u64 (dgl (x) 2 : Nat), .int .u64 (dgl (x) 3 : Nat), .int .u64 (dgl (x) 4 : Nat), .int .u64 (dgl (x) 5 : Nat), .int .u64 (dgl (x) 6 : Nat), .int .u64 (dgl (x) 7 : Nat)], .int .i64 0]) (by simp [results, Try.results14, go_sem, hr1, hrl1]) rfl ⟨rfl, below_set8 HBE.out _ (by omega) _ _ _ _ _ _ _ _⟩

theorem farB_any0 (n : Nat) (s : Int) (hn : n < QQ) (hs : 0 ≤ s) (hs2 : s ≤ 64) (h : n = 0 ∨ 256 < Go.bitLen n) (w : World) :
    Calls Try.prog 14 #[.agg #[.int .u64 (dgl (n) 0 : Nat), .int .u64 (dgl (n) 1 : Nat), .int .u64 (dgl (n) 2 : Nat), .int .u64 (dgl (n) 3 : Nat), .int .u64 (dgl (n) 4 : Nat), .int .u64 (dgl (n) 5 : Nat), .int .u64 (dgl (n) 6 : Nat), .int .u64 (dgl (n) 7 : Nat)], .int .i64 s] w fun e w' => e = .returned (.tuple #[.agg #[.int .u64 0, .int .u64 0, .int .u64 0, .int .u64 0, .int .u64 0, .int .u64 0, .int .u64 0, .int .u64 0], .int .i64 (if 256 < Go.bitLen n then 4 else 0)]) ∧ Below w.heap.size w w' :=
  farB_no n s _ hs hs2 (hide fun w => normB_no n hn h w) (hide fun w => unnormedB_any n hn w) w
theorem farB_ok (n steps : Nat) (hn : n < QQ) (h0 : n ≠ 0) (hL : Go.bitLen n ≤ 256) (hst : steps ≤ 64) (w : World) :
    Calls Try.prog 14 #[.agg #[.int .u64 (dgl (n) 0 : Nat), .int .u64 (dgl (n) 1 : Nat), .int .u64 (dgl (n) 2 : Nat), .int .u64 (dgl (n) 3 : Nat), .int .u64 (dgl (n) 4 : Nat), .int .u64 (dgl (n) 5 : Nat), .int .u64 (dgl (n) 6 : Nat), .int .u64 (dgl (n) 7 : Nat)], .int .i64 (steps : Nat)] w fun e w' => e = .returned (.tuple #[.agg #[.int .u64 (dgl (pn16 n steps) 0 : Nat), .int .u64 (dgl (pn16 n steps) 1 : Nat), .int .u64 (dgl (pn16 n steps) 2 : Nat), .int .u64 (dgl (pn16 n steps) 3 : Nat), .int .u64 (dgl (pn16 n steps) 4 : Nat), .int .u64 (dgl (pn16 n steps) 5 : Nat), .int .u64 (dgl (pn16 n steps) 6 : Nat), .int .u64 (dgl (pn16 n steps) 7 : Nat)], .int .i64 0]) ∧ Below w.heap.size w w' :=
  farB_yes n _ _ _ steps _ hst (hide fun w => normB_yes n hn h0 hL w) (hide fun w => walkB_idleF n h0 hL steps w hst) w

/-- What Digits goes by: the number. -/
structure OnSt (n : Nat) (w W : World) : Prop where
  lx : LiesF W w.heap.size (dgl n)
  bel : Below w.heap.size w W
theorem OnSt.below {n : Nat} {w W W' : World} (h : OnSt n w W) (hb : Below W.heap.size W W') : OnSt n w W' := ⟨h.lx.below hb, below_trans h.bel hb⟩

set_option maxHeartbeats 1000000 in
theorem digB_no (n : Nat) (ez : Int) (HNO : Hid (∀ w, Calls Try.prog 15 #[.agg #[.int .u64 (dgl (n) 0 : Nat), .int .u64 (dgl (n) 1 : Nat), .int .u64 (dgl (n) 2 : Nat), .int .u64 (dgl (n) 3 : Nat), .int .u64 (dgl (n) 4 : Nat), .int .u64 (dgl (n) 5 : Nat), .int .u64 (dgl (n) 6 : Nat), .int .u64 (dgl (n) 7 : Nat)]] w fun e w' => e = .returned (.tuple #[.agg #[.int .u64 0, .int .u64 0, .int .u64 0, .int .u64 0, .int .u64 0, .int .u64 0, .int .u64 0, .int .u64 0], .int .i64 0, .bool false]) ∧ Below w.heap.size w w'))
    (HUN : Hid (∀ w, Calls Try.prog 25 #[.agg #[.int .u64 (dgl (n) 0 : Nat), .int .u64 (dgl (n) 1 : Nat), .int .u64 (dgl (n) 2 : Nat), .int .u64 (dgl (n) 3 : Nat), .int .u64 (dgl (n) 4 : Nat), .int .u64 (dgl (n) 5 : Nat), .int .u64 (dgl (n) 6 : Nat), .int .u64 (dgl (n) 7 : Nat)]] w fun e w' => e = .returned (.int .i64 ez) ∧ Below w.heap.size w w')) (w : World) :
    Calls Try.prog 10 #[.agg #[.int .u64 (dgl (n) 0 : Nat), .int .u64 (dgl (n) 1 : Nat), .int .u64 (dgl (n) 2 : Nat), .int .u64 (dgl (n) 3 : Nat), .int .u64 (dgl (n) 4 : Nat), .int .u64 (dgl (n) 5 : Nat), .int .u64 (dgl (n) 6 : Nat), .int .u64 (dgl (n) 7 : Nat)]] w fun e w' => e = .returned (.tuple #[.slice none 0 0, .int .i64 ez]) ∧ Below w.heap.size w w' := by
  have HS : Hid (OnSt n w (w.alloc (.cells #[.int .u64 (dgl (n) 0 : Nat), .int .u64 (dgl (n) 1 : Nat), .int .u64 (dgl (n) 2 : Nat), .int .u64 (dgl (n) 3 : Nat), .int .u64 (dgl (n) 4 : Nat), .int .u64 (dgl (n) 5 : Nat), .int .u64 (dgl (n) 6 : Nat), .int .u64 (dgl (n) 7 : Nat)] 24))) := ⟨liesF_new w (dgl n) _, below_allocs _ _⟩
  go_enter Try.func10, Try.ntmps10
  have hl := HS.out.lx.1
  go_wp2_with fail
  refine (HNO.out _).mono ?_
  rintro e w2 ⟨rfl, hb2⟩
  replace HS := hide (HS.out.below hb2)
  clear hb2 hl HNO
  go_upto_region 2 with fail
  refine wp_gen (fun W => OnSt n w W) (HS.out.below (below_allocs _ _)) ?_
  clear HS
  rintro W4 h4
  have HS := hide h4
  have hl := h4.lx.1
  clear h4
  go_wp2_with fail
  refine (HUN.out _).mono ?_
  rintro e w5 ⟨rfl, hb5⟩
  have HB := hide (HS.out.below hb5).bel
  clear hb5 hl HUN HS
  go_wp2
  exact bodyPost_ret (v := .tuple #[.slice none 0 0, .int .i64 ez]) (by simp [results, Try.results10, go_sem]) rfl ⟨rfl, HB.out⟩

set_option maxHeartbeats 2000000 in
theorem digB_yes (n X : Nat) (b : Int) (L : List Nat) (HNO : Hid (∀ w, Calls Try.prog 15 #[.agg #[.int .u64 (dgl (n) 0 : Nat), .int .u64 (dgl (n) 1 : Nat), .int .u64 (dgl (n) 2 : Nat), .int .u64 (dgl (n) 3 : Nat), .int .u64 (dgl (n) 4 : Nat), .int .u64 (dgl (n) 5 : Nat), .int .u64 (dgl (n) 6 : Nat), .int .u64 (dgl (n) 7 : Nat)]] w fun e w' => e = .returned (.tuple #[.agg #[.int .u64 (dgl (X) 0 : Nat), .int .u64 (dgl (X) 1 : Nat), .int .u64 (dgl (X) 2 : Nat), .int .u64 (dgl (X) 3 : Nat), .int .u64 (dgl (X) 4 : Nat), .int .u64 (dgl (X) 5 : Nat), .int .u64 (dgl (X) 6 : Nat), .int .u64 (dgl (X) 7 : Nat)], .int .i64 b, .bool true]) ∧ Below w.heap.size w w')) (w : World)
    (HWK : Hid (∀ p10 W, W.cell? ⟨p10, 0, none⟩ = some (.slice none 0 0) → W.frozen? ⟨p10, 0, none⟩ = false → p10 < W.heap.size → w.heap.size ≤ p10 → Below w.heap.size w W → Calls Try.prog 26 #[.agg #[.int .u64 (dgl (X) 0 : Nat), .int .u64 (dgl (X) 1 : Nat), .int .u64 (dgl (X) 2 : Nat), .int .u64 (dgl (X) 3 : Nat), .int .u64 (dgl (X) 4 : Nat), .int .u64 (dgl (X) 5 : Nat), .int .u64 (dgl (X) 6 : Nat), .int .u64 (dgl (X) 7 : Nat)], .int .i64 64, .func (.func 34) #[] #[.pointer (some ⟨p10, 0, none⟩)]] W fun e w' => ∃ r v, e = .returned r ∧ w'.cell? ⟨p10, 0, none⟩ = some v ∧ Rd mkZ w' v L ∧ Below w.heap.size w w')) :
    Calls Try.prog 10 #[.agg #[.int .u64 (dgl (n) 0 : Nat), .int .u64 (dgl (n) 1 : Nat), .int .u64 (dgl (n) 2 : Nat), .int .u64 (dgl (n) 3 : Nat), .int .u64 (dgl (n) 4 : Nat), .int .u64 (dgl (n) 5 : Nat), .int .u64 (dgl (n) 6 : Nat), .int .u64 (dgl (n) 7 : Nat)]] w fun e' w' => ∃ v, e' = .returned (.tuple #[v, .int .i64 0]) ∧ Rd mkZ w' v L ∧ Below w.heap.size w w' := by
  have HS : Hid (OnSt n w (w.alloc (.cells #[.int .u64 (dgl (n) 0 : Nat), .int .u64 (dgl (n) 1 : Nat), .int .u64 (dgl (n) 2 : Nat), .int .u64 (dgl (n) 3 : Nat), .int .u64 (dgl (n) 4 : Nat), .int .u64 (dgl (n) 5 : Nat), .int .u64 (dgl (n) 6 : Nat), .int .u64 (dgl (n) 7 : Nat)] 24))) := ⟨liesF_new w (dgl n) _, below_allocs _ _⟩
  go_enter Try.func10, Try.ntmps10
  have hl := HS.out.lx.1
  go_wp2_with fail
  refine (HNO.out _).mono ?_
  rintro e w3 ⟨rfl, hb3⟩
  replace HS := hide (HS.out.below hb3)
  clear hb3 hl HNO
  have HP := hide HS.out.bel.size
  go_upto_region 5 with fail
  have hbw := below_trans (below_allocs w3 (.cells #[.int .u64 (dgl (X) 0 : Nat), .int .u64 (dgl (X) 1 : Nat), .int .u64 (dgl (X) 2 : Nat), .int .u64 (dgl (X) 3 : Nat), .int .u64 (dgl (X) 4 : Nat), .int .u64 (dgl (X) 5 : Nat), .int .u64 (dgl (X) 6 : Nat), .int .u64 (dgl (X) 7 : Nat)] 24)) (below_allocs _ (.cells #[.slice none 0 0] 31))
  refine wp_gen (fun W => Below w.heap.size w W ∧ LiesF W w3.heap.size (dgl X) ∧ W.cell? ⟨w3.heap.size + 1, 0, none⟩ = some (.slice none 0 0) ∧ W.frozen? ⟨w3.heap.size + 1, 0, none⟩ = false ∧ w3.heap.size + 1 < W.heap.size) ⟨below_trans HS.out.bel hbw, (liesF_new w3 (dgl X) _).alloc _, by simp [go_sem], by simp [go_sem], by simp⟩ ?_
  clear HS hbw
  have HP10 := hide (show w.heap.size ≤ w3.heap.size + 1 from Nat.le_succ_of_le HP.out)
  obtain ⟨p10, hp10⟩ : ∃ p10, w3.heap.size + 1 = p10 := ⟨_, rfl⟩
  rw [hp10] at HP10 ⊢
  clear hp10 HP
  generalize w3.heap.size = p7 at *
  rintro W6 h6
  have HWL := hide (HWK.out p10 W6 h6.2.2.1 h6.2.2.2.1 h6.2.2.2.2 HP10.out h6.1)
  have hl := h6.2.1.1
  clear h6 HWK
  go_wp2_with fail
  refine (HWL.out).mono ?_
  rintro e w6 ⟨r, v, rfl, hcv, hrd, hb6⟩
  have HR := hide hrd
  have HBE := hide hb6
  clear hrd hb6 HWL hl
  go_wp2
  exact bodyPost_ret (v := .tuple #[v, .int .i64 0]) (by simp [results, Try.results10, go_sem]) rfl ⟨_, rfl, HR.out, HBE.out⟩
theorem digB_any0 (n : Nat) (hn : n < QQ) (h : n = 0 ∨ 256 < Go.bitLen n) (w : World) :
    Calls Try.prog 10 #[.agg #[.int .u64 (dgl (n) 0 : Nat), .int .u64 (dgl (n) 1 : Nat), .int .u64 (dgl (n) 2 : Nat), .int .u64 (dgl (n) 3 : Nat), .int .u64 (dgl (n) 4 : Nat), .int .u64 (dgl (n) 5 : Nat), .int .u64 (dgl (n) 6 : Nat), .int .u64 (dgl (n) 7 : Nat)]] w fun e w' => e = .returned (.tuple #[.slice none 0 0, .int .i64 (if 256 < Go.bitLen n then 4 else 0)]) ∧ Below w.heap.size w w' :=
  digB_no n _ (hide fun w => normB_no n hn h w) (hide fun w => unnormedB_any n hn w) w
theorem digB_ok (n : Nat) (hn : n < QQ) (h0 : n ≠ 0) (hL : Go.bitLen n ≤ 256) (w : World) :
    Calls Try.prog 10 #[.agg #[.int .u64 (dgl (n) 0 : Nat), .int .u64 (dgl (n) 1 : Nat), .int .u64 (dgl (n) 2 : Nat), .int .u64 (dgl (n) 3 : Nat), .int .u64 (dgl (n) 4 : Nat), .int .u64 (dgl (n) 5 : Nat), .int .u64 (dgl (n) 6 : Nat), .int .u64 (dgl (n) 7 : Nat)]] w fun e w' => ∃ v, e = .returned (.tuple #[v, .int .i64 0]) ∧ Rd mkZ w' v (seqL (dg16 n) 64) ∧ Below w.heap.size w w' :=
  digB_yes n _ _ _ (hide fun w => normB_yes n hn h0 hL w) w (hide fun p10 W h1 h2 h3 h4 h5 => walkB_digits n h0 hL w W p10 h1 h2 h3 h4 h5)
end Go.Proofs.Ytbngaajhdaciaaa

