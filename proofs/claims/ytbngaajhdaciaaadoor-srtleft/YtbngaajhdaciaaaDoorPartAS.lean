/- Contracts and laws: RdxA, RdxC, RdxD, RdxE, RdxF, RdxH. -/
import Derived.Test.YtbngaajhdaciaaaDoorPartAQ
import Derived.Test.YtbngaajhdaciaaaDoorPartAR
import Derived.Test.YtbngaajhdaciaaaDoorPartAL
import Derived.Test.YtbngaajhdaciaaaDoorPartAM
import Derived.WalkMore
/- Contracts: radix2.restore. -/
set_option linter.unusedVariables false
set_option linter.unusedSimpArgs false
set_option maxRecDepth 8000
namespace Go.Proofs.YtbngaajhdaciaaaDoor
open Go.RowKit Plain

/-- Outside the three blocks from B on the world is as it was. -/
structure Apart3 (B : Nat) (w w' : World) : Prop where
  os : w'.os = w.os
  tape : w'.tape = w.tape
  output : w'.output = w.output
  size : w.heap.size ≤ w'.heap.size
  block : ∀ k, k < w.heap.size → (k < B ∨ B + 3 ≤ k) → w'.heap[k]? = w.heap[k]?
/-- The three blocks from B on are as they were. -/
structure Kept3 (B : Nat) (w w' : World) : Prop where
  size : w.heap.size ≤ w'.heap.size
  block : ∀ k, B ≤ k → k < B + 3 → w'.heap[k]? = w.heap[k]?
theorem apart_of {B : Nat} {w w' : World} (h : Below w.heap.size w w') : Apart3 B w w' := ⟨h.os, h.tape, h.output, h.size, fun k hk _ => h.block k hk⟩
theorem Apart3.then {B : Nat} {w w' w2 : World} (h : Apart3 B w w') (hb : Below w'.heap.size w' w2) : Apart3 B w w2 :=
  ⟨hb.os.trans h.os, hb.tape.trans h.tape, hb.output.trans h.output, Nat.le_trans h.size hb.size, fun k hk ho => (hb.block k (Nat.lt_of_lt_of_le hk h.size)).trans (h.block k hk ho)⟩
theorem Apart3.drew {B : Nat} {w w' : World} (h : Apart3 B w w') : Apart3 B w w'.drew := h.then (Below.refl _ _).drew
theorem Apart3.set {B : Nat} {w w' : World} (h : Apart3 B w w') (i : Nat) (u : Value) : Apart3 B w (w'.setCell ⟨B + 2, i, none⟩ u) :=
  ⟨h.os, h.tape, h.output, by simpa [go_sem] using h.size, fun k hk ho => (Below.heap_setCell _ _ _ _ (by show k ≠ B + 2; omega)).trans (h.block k hk ho)⟩
theorem Apart3.set8 {B : Nat} {w w' : World} (h : Apart3 B w w') (x0 x1 x2 x3 x4 x5 x6 x7 : Value) : Apart3 B w ((((((((w'.setCell ⟨B + 2, 0, none⟩ x0).setCell ⟨B + 2, 1, none⟩ x1).setCell ⟨B + 2, 2, none⟩ x2).setCell ⟨B + 2, 3, none⟩ x3).setCell ⟨B + 2, 4, none⟩ x4).setCell ⟨B + 2, 5, none⟩ x5).setCell ⟨B + 2, 6, none⟩ x6).setCell ⟨B + 2, 7, none⟩ x7) :=
  (((((((h.set 0 x0).set 1 x1).set 2 x2).set 3 x3).set 4 x4).set 5 x5).set 6 x6).set 7 x7
theorem Apart3.cell {B : Nat} {w w' : World} (h : Apart3 B w w') {b i : Nat} (hb : b < w.heap.size) (ho : b < B ∨ B + 3 ≤ b) : w'.cell? ⟨b, i, none⟩ = w.cell? ⟨b, i, none⟩ := World.cell?_of_block (w := w) (h.block b hb ho)
theorem Apart3.frozen {B : Nat} {w w' : World} (h : Apart3 B w w') {b i : Nat} (hb : b < w.heap.size) (ho : b < B ∨ B + 3 ≤ b) : w'.frozen? ⟨b, i, none⟩ = w.frozen? ⟨b, i, none⟩ := World.frozen?_of_block (w := w) (h.block b hb ho)
theorem Apart3.lies {B : Nat} {w w' : World} (h : Apart3 B w w') {b : Nat} {f : Nat → Nat} (hl : LiesF w b f) (ho : b < B ∨ B + 3 ≤ b) : LiesF w' b f :=
  ⟨fun i hi => (h.cell hl.2 ho).trans (hl.1 i hi), Nat.lt_of_lt_of_le hl.2 h.size⟩
theorem Apart3.under {B C : Nat} {w0 w w' : World} (h : Apart3 B w w') (hb : Below C w0 w) (hc : C ≤ B) (hw : C ≤ w0.heap.size) : Below C w0 w' :=
  ⟨h.os.trans hb.os, h.tape.trans hb.tape, h.output.trans hb.output, Nat.le_trans hb.size h.size, fun k hk => (h.block k (Nat.lt_of_lt_of_le hk (Nat.le_trans hw hb.size)) (.inl (by omega))).trans (hb.block k hk)⟩
theorem Kept3.cell {B : Nat} {w w' : World} (h : Kept3 B w w') {b i : Nat} (h1 : B ≤ b) (h2 : b < B + 3) : w'.cell? ⟨b, i, none⟩ = w.cell? ⟨b, i, none⟩ := World.cell?_of_block (w := w) (h.block b h1 h2)
theorem Kept3.frozen {B : Nat} {w w' : World} (h : Kept3 B w w') {b i : Nat} (h1 : B ≤ b) (h2 : b < B + 3) : w'.frozen? ⟨b, i, none⟩ = w.frozen? ⟨b, i, none⟩ := World.frozen?_of_block (w := w) (h.block b h1 h2)
theorem Kept3.lies {B : Nat} {w w' : World} (h : Kept3 B w w') {b : Nat} {f : Nat → Nat} (hl : LiesF w b f) (h1 : B ≤ b) (h2 : b < B + 3) : LiesF w' b f :=
  ⟨fun i hi => (h.cell h1 h2).trans (hl.1 i hi), Nat.lt_of_lt_of_le hl.2 h.size⟩
/-- What restore goes by: dividend, divisor, what is left. -/
structure RsSt (n d r : Nat) (w W : World) : Prop where
  ln : LiesF W w.heap.size (dgl n)
  ld : LiesF W (w.heap.size + 1) (dgl d)
  lr : LiesF W (w.heap.size + 2) (dgl r)
  fr : ∀ i, W.frozen? ⟨w.heap.size + 2, i, none⟩ = false
  n8 : ∀ b, w.heap.size ≤ b → b < w.heap.size + 3 → W.cell? ⟨b, 8, none⟩ = none
theorem RsSt.under {n d r : Nat} {w W W' : World} (h : RsSt n d r w W) {C : Nat} (hb : Below C W W') (hc : w.heap.size + 3 ≤ C) : RsSt n d r w W' :=
  ⟨lies_box h.ln hb (by omega), lies_box h.ld hb (by omega), lies_box h.lr hb (by omega), fun i => (hb.frozen (p := ⟨w.heap.size + 2, i, none⟩) (show w.heap.size + 2 < C by omega)).trans (h.fr i), fun b h1 h2 => (hb.cell (p := ⟨b, 8, none⟩) (show b < C by omega)).trans (h.n8 b h1 h2)⟩
theorem RsSt.below {n d r : Nat} {w W W' : World} (h : RsSt n d r w W) (hb : Below W.heap.size W W') : RsSt n d r w W' := h.under hb h.lr.2
theorem RsSt.kept {n d r : Nat} {w W W' : World} (h : RsSt n d r w W) (hb : Kept3 w.heap.size W W') : RsSt n d r w W' :=
  ⟨hb.lies h.ln (by omega) (by omega), hb.lies h.ld (by omega) (by omega), hb.lies h.lr (by omega) (by omega), fun i => (hb.frozen (by omega) (by omega)).trans (h.fr i), fun b h1 h2 => (hb.cell h1 h2).trans (h.n8 b h1 h2)⟩
theorem RsSt.set8 {n d r : Nat} {w W : World} (h : RsSt n d r w W) (x : Nat) : RsSt n d x w ((((((((W.setCell ⟨w.heap.size + 2, 0, none⟩ (.int .u64 (dgl x 0 : Nat))).setCell ⟨w.heap.size + 2, 1, none⟩ (.int .u64 (dgl x 1 : Nat))).setCell ⟨w.heap.size + 2, 2, none⟩ (.int .u64 (dgl x 2 : Nat))).setCell ⟨w.heap.size + 2, 3, none⟩ (.int .u64 (dgl x 3 : Nat))).setCell ⟨w.heap.size + 2, 4, none⟩ (.int .u64 (dgl x 4 : Nat))).setCell ⟨w.heap.size + 2, 5, none⟩ (.int .u64 (dgl x 5 : Nat))).setCell ⟨w.heap.size + 2, 6, none⟩ (.int .u64 (dgl x 6 : Nat))).setCell ⟨w.heap.size + 2, 7, none⟩ (.int .u64 (dgl x 7 : Nat))) :=
  ⟨lies_ne h.ln (by omega), lies_ne h.ld (by omega), set8_same W _ (dgl x) (dgl r) h.lr, fun i => by simpa [go_sem] using h.fr i, fun b h1 h2 => by simpa [go_sem] using h.n8 b h1 h2⟩
theorem rsSt_start (n d : Nat) (w : World) (e1 e2 e3 : TypeId) : RsSt n d n w (((w.alloc (.cells #[.int .u64 (dgl (n) 0 : Nat), .int .u64 (dgl (n) 1 : Nat), .int .u64 (dgl (n) 2 : Nat), .int .u64 (dgl (n) 3 : Nat), .int .u64 (dgl (n) 4 : Nat), .int .u64 (dgl (n) 5 : Nat), .int .u64 (dgl (n) 6 : Nat), .int .u64 (dgl (n) 7 : Nat)] e1)).alloc (.cells #[.int .u64 (dgl (d) 0 : Nat), .int .u64 (dgl (d) 1 : Nat), .int .u64 (dgl (d) 2 : Nat), .int .u64 (dgl (d) 3 : Nat), .int .u64 (dgl (d) 4 : Nat), .int .u64 (dgl (d) 5 : Nat), .int .u64 (dgl (d) 6 : Nat), .int .u64 (dgl (d) 7 : Nat)] e2)).alloc (.cells #[.int .u64 (dgl (n) 0 : Nat), .int .u64 (dgl (n) 1 : Nat), .int .u64 (dgl (n) 2 : Nat), .int .u64 (dgl (n) 3 : Nat), .int .u64 (dgl (n) 4 : Nat), .int .u64 (dgl (n) 5 : Nat), .int .u64 (dgl (n) 6 : Nat), .int .u64 (dgl (n) 7 : Nat)] e3)) := by
  have h1 := ((liesF_new w (dgl n) e1).alloc (.cells #[.int .u64 (dgl (d) 0 : Nat), .int .u64 (dgl (d) 1 : Nat), .int .u64 (dgl (d) 2 : Nat), .int .u64 (dgl (d) 3 : Nat), .int .u64 (dgl (d) 4 : Nat), .int .u64 (dgl (d) 5 : Nat), .int .u64 (dgl (d) 6 : Nat), .int .u64 (dgl (d) 7 : Nat)] e2)).alloc (.cells #[.int .u64 (dgl (n) 0 : Nat), .int .u64 (dgl (n) 1 : Nat), .int .u64 (dgl (n) 2 : Nat), .int .u64 (dgl (n) 3 : Nat), .int .u64 (dgl (n) 4 : Nat), .int .u64 (dgl (n) 5 : Nat), .int .u64 (dgl (n) 6 : Nat), .int .u64 (dgl (n) 7 : Nat)] e3)
  have h2 := (liesF_new (w.alloc (.cells #[.int .u64 (dgl (n) 0 : Nat), .int .u64 (dgl (n) 1 : Nat), .int .u64 (dgl (n) 2 : Nat), .int .u64 (dgl (n) 3 : Nat), .int .u64 (dgl (n) 4 : Nat), .int .u64 (dgl (n) 5 : Nat), .int .u64 (dgl (n) 6 : Nat), .int .u64 (dgl (n) 7 : Nat)] e1)) (dgl d) e2).alloc (.cells #[.int .u64 (dgl (n) 0 : Nat), .int .u64 (dgl (n) 1 : Nat), .int .u64 (dgl (n) 2 : Nat), .int .u64 (dgl (n) 3 : Nat), .int .u64 (dgl (n) 4 : Nat), .int .u64 (dgl (n) 5 : Nat), .int .u64 (dgl (n) 6 : Nat), .int .u64 (dgl (n) 7 : Nat)] e3)
  have h3 := liesF_new ((w.alloc (.cells #[.int .u64 (dgl (n) 0 : Nat), .int .u64 (dgl (n) 1 : Nat), .int .u64 (dgl (n) 2 : Nat), .int .u64 (dgl (n) 3 : Nat), .int .u64 (dgl (n) 4 : Nat), .int .u64 (dgl (n) 5 : Nat), .int .u64 (dgl (n) 6 : Nat), .int .u64 (dgl (n) 7 : Nat)] e1)).alloc (.cells #[.int .u64 (dgl (d) 0 : Nat), .int .u64 (dgl (d) 1 : Nat), .int .u64 (dgl (d) 2 : Nat), .int .u64 (dgl (d) 3 : Nat), .int .u64 (dgl (d) 4 : Nat), .int .u64 (dgl (d) 5 : Nat), .int .u64 (dgl (d) 6 : Nat), .int .u64 (dgl (d) 7 : Nat)] e2)) (dgl n) e3
  rw [World.size_alloc] at h2
  rw [World.size_alloc, World.size_alloc] at h3
  refine ⟨h1, h2, h3, fun i => by simp [go_sem], fun b h4 h5 => ?_⟩
  rcases (show b = w.heap.size ∨ b = w.heap.size + 1 ∨ b = w.heap.size + 2 by omega) with rfl | rfl | rfl
  · simp [go_sem]
  · simp [go_sem]
  · simp [go_sem]

set_option maxHeartbeats 8000000 in
theorem restore_any (fid : Nat) (caps : Array Value) (n d : Nat) (go : Nat → Bool) (I : Nat → World → Prop) (w : World)
    (hn : n < QQ) (hd : 0 < d) (hq : n / d < 2 ^ 128) (hs : ∀ p, p < 128 → d * 2 ^ p < QQ)
    (hent : ∀ args w, (callFunc fid args).run Tryd.prog w = .ok (.enter fid args) w)
    (hcall : ∀ p wr, p < 128 → I (p + 1) wr → w.heap.size + 3 ≤ wr.heap.size → (∀ b, w.heap.size ≤ b → b < w.heap.size + 3 → wr.cell? ⟨b, 8, none⟩ = none) → Calls Tryd.prog fid (#[.int .i64 ((n / d / 2 ^ p % 2 : Nat) : Int), .agg #[.int .u64 (dgl (leftN n d p) 0 : Nat), .int .u64 (dgl (leftN n d p) 1 : Nat), .int .u64 (dgl (leftN n d p) 2 : Nat), .int .u64 (dgl (leftN n d p) 3 : Nat), .int .u64 (dgl (leftN n d p) 4 : Nat), .int .u64 (dgl (leftN n d p) 5 : Nat), .int .u64 (dgl (leftN n d p) 6 : Nat), .int .u64 (dgl (leftN n d p) 7 : Nat)]] ++ caps) wr fun e w' => e = .returned (.bool (go p)) ∧ I p w' ∧ Kept3 w.heap.size wr w')
    (hst : ∀ c wr wr', I c wr → Apart3 w.heap.size wr wr' → I c wr') (h0 : I 128 w) :
    Calls Tryd.prog 50 #[.agg #[.int .u64 (dgl (n) 0 : Nat), .int .u64 (dgl (n) 1 : Nat), .int .u64 (dgl (n) 2 : Nat), .int .u64 (dgl (n) 3 : Nat), .int .u64 (dgl (n) 4 : Nat), .int .u64 (dgl (n) 5 : Nat), .int .u64 (dgl (n) 6 : Nat), .int .u64 (dgl (n) 7 : Nat)], .agg #[.int .u64 (dgl (d) 0 : Nat), .int .u64 (dgl (d) 1 : Nat), .int .u64 (dgl (d) 2 : Nat), .int .u64 (dgl (d) 3 : Nat), .int .u64 (dgl (d) 4 : Nat), .int .u64 (dgl (d) 5 : Nat), .int .u64 (dgl (d) 6 : Nat), .int .u64 (dgl (d) 7 : Nat)], .func (.func fid) #[] caps] w fun e w' => e = .returned (.tuple #[]) ∧ ∃ c, c ≤ 128 ∧ I c w' ∧ (c = 0 ∨ (c < 128 ∧ go c = false)) := by
  have HSH : Hid (∀ p, p < 128 → ∀ w, Calls Tryd.prog 29 #[.agg #[.int .u64 (dgl (d) 0 : Nat), .int .u64 (dgl (d) 1 : Nat), .int .u64 (dgl (d) 2 : Nat), .int .u64 (dgl (d) 3 : Nat), .int .u64 (dgl (d) 4 : Nat), .int .u64 (dgl (d) 5 : Nat), .int .u64 (dgl (d) 6 : Nat), .int .u64 (dgl (d) 7 : Nat)], .int .i64 (p : Nat)] w fun e w' => e = .returned (.agg #[.int .u64 (dgl (d * 2 ^ p) 0 : Nat), .int .u64 (dgl (d * 2 ^ p) 1 : Nat), .int .u64 (dgl (d * 2 ^ p) 2 : Nat), .int .u64 (dgl (d * 2 ^ p) 3 : Nat), .int .u64 (dgl (d * 2 ^ p) 4 : Nat), .int .u64 (dgl (d * 2 ^ p) 5 : Nat), .int .u64 (dgl (d * 2 ^ p) 6 : Nat), .int .u64 (dgl (d * 2 ^ p) 7 : Nat)]) ∧ Below w.heap.size w w') := by
    intro p hp w
    have hdq : d < QQ := Nat.lt_of_le_of_lt (Nat.le_mul_of_pos_right d (Nat.two_pow_pos p)) (hs p hp)
    have h := wideShl_any d (p : Nat) hdq w
    rw [show roomI (p : Nat) = ((p : Nat) : Int) by unfold roomI; omega, sh_up] at h
    exact h
  have HQ := hide hs
  have HN := hide hn
  have HD := hide hd
  have HCA := hide hcall
  have HST := hide hst
  have HI0 := hide (hst 128 _ _ h0 (apart_of (below_trans (below_trans (below_allocs w (.cells #[.int .u64 (dgl (n) 0 : Nat), .int .u64 (dgl (n) 1 : Nat), .int .u64 (dgl (n) 2 : Nat), .int .u64 (dgl (n) 3 : Nat), .int .u64 (dgl (n) 4 : Nat), .int .u64 (dgl (n) 5 : Nat), .int .u64 (dgl (n) 6 : Nat), .int .u64 (dgl (n) 7 : Nat)] 24)) (below_allocs _ (.cells #[.int .u64 (dgl (d) 0 : Nat), .int .u64 (dgl (d) 1 : Nat), .int .u64 (dgl (d) 2 : Nat), .int .u64 (dgl (d) 3 : Nat), .int .u64 (dgl (d) 4 : Nat), .int .u64 (dgl (d) 5 : Nat), .int .u64 (dgl (d) 6 : Nat), .int .u64 (dgl (d) 7 : Nat)] 24))) (below_allocs _ (.cells #[.int .u64 (dgl (n) 0 : Nat), .int .u64 (dgl (n) 1 : Nat), .int .u64 (dgl (n) 2 : Nat), .int .u64 (dgl (n) 3 : Nat), .int .u64 (dgl (n) 4 : Nat), .int .u64 (dgl (n) 5 : Nat), .int .u64 (dgl (n) 6 : Nat), .int .u64 (dgl (n) 7 : Nat)] 24)))))
  have HS0 := hide (rsSt_start n d w 24 24 24)
  have HR0 : Hid (n = leftN n d 128) := (leftN_top hq).symm
  clear hs hn hd hcall hst h0 hq
  go_enter Tryd.func50, Tryd.ntmps50
  go_wp2
  go_step3
  go_wp2
  go_step3
  go_wp2
  go_loopw [7] (fun i wr => ∃ (c : Nat) (zi : Int) (r : Nat), c ≤ 128 ∧ Hid (zi = (c : Int) - 1) ∧ i = .int .i64 zi ∧ Hid (r = leftN n d c) ∧ Hid (I c wr) ∧ Hid (RsSt n d r w wr))
    (fun i _ => (intOf i + 1).toNat)
  case atStart => exact ⟨128, 127, n, by omega, hide rfl, rfl, HR0, HI0, HS0⟩
  case round =>
    obtain ⟨c, zi, r, hc, hzi, rfl, hr, hI, hst⟩ := hrel
    by_cases hz0 : 0 ≤ zi
    · obtain ⟨p, rfl⟩ : ∃ p : Nat, zi = (p : Int) := ⟨zi.toNat, by omega⟩
      obtain rfl : c = p + 1 := by have := hzi.out; omega
      have hp : p < 128 := hc
      clear hzi hc
      have HPC := hide (show w.heap.size + 3 ≤ wr.heap.size from hst.out.lr.2)
      obtain ⟨s, hs⟩ : ∃ s, d * 2 ^ p = s := ⟨_, rfl⟩
      have HSQ := hide (HQ.out p hp)
      have HSHL := hide (HSH.out p hp)
      rw [hs] at HSHL HSQ
      have HRQ := hide (show r < QQ by rw [hr.out]; exact Nat.lt_of_le_of_lt (leftN_le _ _ _) HN.out)
      have HSUB := hide (fun w => wideSub_any r s HRQ.out HSQ.out w)
      have HON : Hid (¬ r < s → n / d / 2 ^ p % 2 = 1 ∧ leftN n d p = subQ r s) := by
        intro h
        have h1 := (left_iff (c := p) HD.out).1 (by rw [← hr.out, hs]; omega)
        refine ⟨h1, ?_⟩
        rw [leftN_on h1, ← hr.out, hs]
        unfold subQ
        rw [subW_sub (by decide) 8 r s HRQ.out (by omega)]
      have HOFF : Hid (r < s → n / d / 2 ^ p % 2 = 0 ∧ leftN n d p = r) := by
        intro h
        have h1 : n / d / 2 ^ p % 2 = 0 := by
          rcases bitN_cases (n / d) p with h2 | h2
          · exact h2
          · have := (left_iff (c := p) HD.out).2 h2
            rw [← hr.out, hs] at this
            omega
        exact ⟨h1, by rw [leftN_off h1, ← hr.out]⟩
      clear hs hr
      generalize subQ r s = x at *
      have HLO : Hid (decide (r < s) = decide (r < s)) := rfl
      have hr0 := hst.out.lr.1
      by_cases hlt : r < s
      · have hlo : decide (r < s) = true := decide_eq_true hlt
        rw [hlo] at HSUB
        obtain ⟨h1, h2⟩ := HOFF.out hlt
        have HDG := hide h1
        have HLF := hide h2
        clear h1 h2 HON HOFF HLO hlo hlt hr0
        have hlo : Hid (true = true) := rfl
        go_upto_region 5 with fail
        refine wp_region_storeK 11 [9] [17, 18, 19, 20, 21, 16, 22, 23, 8, 9] (fun bs => [(17, .val (.agg #[.int .u64 (dgl (r) 0 : Nat), .int .u64 (dgl (r) 1 : Nat), .int .u64 (dgl (r) 2 : Nat), .int .u64 (dgl (r) 3 : Nat), .int .u64 (dgl (r) 4 : Nat), .int .u64 (dgl (r) 5 : Nat), .int .u64 (dgl (r) 6 : Nat), .int .u64 (dgl (r) 7 : Nat)])), (18, .val (.agg #[.int .u64 (dgl (d) 0 : Nat), .int .u64 (dgl (d) 1 : Nat), .int .u64 (dgl (d) 2 : Nat), .int .u64 (dgl (d) 3 : Nat), .int .u64 (dgl (d) 4 : Nat), .int .u64 (dgl (d) 5 : Nat), .int .u64 (dgl (d) 6 : Nat), .int .u64 (dgl (d) 7 : Nat)])), (19, .val (.int .i64 (p : Nat))), (20, .val (.agg #[.int .u64 (dgl (s) 0 : Nat), .int .u64 (dgl (s) 1 : Nat), .int .u64 (dgl (s) 2 : Nat), .int .u64 (dgl (s) 3 : Nat), .int .u64 (dgl (s) 4 : Nat), .int .u64 (dgl (s) 5 : Nat), .int .u64 (dgl (s) 6 : Nat), .int .u64 (dgl (s) 7 : Nat)])), (21, .val (.tuple #[.agg #[.int .u64 (dgl (x) 0 : Nat), .int .u64 (dgl (x) 1 : Nat), .int .u64 (dgl (x) 2 : Nat), .int .u64 (dgl (x) 3 : Nat), .int .u64 (dgl (x) 4 : Nat), .int .u64 (dgl (x) 5 : Nat), .int .u64 (dgl (x) 6 : Nat), .int .u64 (dgl (x) 7 : Nat)], .bool true])), (16, .val (.tuple #[.agg #[.int .u64 (dgl (x) 0 : Nat), .int .u64 (dgl (x) 1 : Nat), .int .u64 (dgl (x) 2 : Nat), .int .u64 (dgl (x) 3 : Nat), .int .u64 (dgl (x) 4 : Nat), .int .u64 (dgl (x) 5 : Nat), .int .u64 (dgl (x) 6 : Nat), .int .u64 (dgl (x) 7 : Nat)], .bool true])), (22, .val (.agg #[.int .u64 (dgl (x) 0 : Nat), .int .u64 (dgl (x) 1 : Nat), .int .u64 (dgl (x) 2 : Nat), .int .u64 (dgl (x) 3 : Nat), .int .u64 (dgl (x) 4 : Nat), .int .u64 (dgl (x) 5 : Nat), .int .u64 (dgl (x) 6 : Nat), .int .u64 (dgl (x) 7 : Nat)])), (23, .val (.bool true)), (8, bif bs.headD false then SlotIs.box wr.heap.size (dgl x) else SlotIs.box wr.heap.size (fun _ => 0)), (9, .val (.bool true))])
          (fun _ W => RsSt n d r w W ∧ Below wr.heap.size wr W) (fun bs => rfl) mixedOk (by kernel_rfl) (by kernel_rfl) (by kernel_rfl) (⟨hst.out.below (Below.refl _ _).drew, (Below.refl _ _).drew⟩) (fun bs W W' h hb => ⟨h.1.below hb, h.2.trans (hb.mono h.2.size)⟩) ?_ ?_
        · refine kSt rfl (fun φ hφ => gStep_run rfl ?_) ?_
          · intro ρ W hC hc hf hL
            have e6 : ρ (.tmp 6) = .pointer (some ⟨w.heap.size + 2, 0, none⟩) := hL 6 (by decide +kernel)
            have hl := hC.1.lr.1
            simp [go_sem, hc, hf, e6, hl]
            exact ⟨Below.refl _ _, rfl⟩
          refine kSt rfl (fun φ hφ => gStep_run rfl ?_) ?_
          · intro ρ W hC hc hf hL
            have e4 : ρ (.tmp 4) = .pointer (some ⟨w.heap.size + 1, 0, none⟩) := hL 4 (by decide +kernel)
            have hl := hC.1.ld.1
            simp [go_sem, hc, hf, e4, hl]
            exact ⟨Below.refl _ _, rfl⟩
          refine kSt rfl (fun φ hφ => gStep_run rfl (gRun_move 7 19 (.inl rfl) rfl (by decide +kernel) (fun v w h => h))) ?_
          refine kSt rfl (fun φ hφ => gStep_run rfl ?_) ?_
          · intro ρ W hC hc hf hL
            have e18 : ρ (.tmp 18) = .agg #[.int .u64 (dgl (d) 0 : Nat), .int .u64 (dgl (d) 1 : Nat), .int .u64 (dgl (d) 2 : Nat), .int .u64 (dgl (d) 3 : Nat), .int .u64 (dgl (d) 4 : Nat), .int .u64 (dgl (d) 5 : Nat), .int .u64 (dgl (d) 6 : Nat), .int .u64 (dgl (d) 7 : Nat)] := hL 18 (by decide +kernel)
            have e19 : ρ (.tmp 19) = .int .i64 (p : Nat) := hL 19 (by decide +kernel)
            simp [go_sem, hc, hf, e18, e19]
            refine (HSHL.out W).mono ?_
            rintro e w' ⟨rfl, hb⟩
            exact ⟨_, rfl, by first | exact hb | (subst hb; exact Below.refl _ _), rfl⟩
          refine kSt rfl (fun φ hφ => gStep_run rfl ?_) ?_
          · intro ρ W hC hc hf hL
            have e17 : ρ (.tmp 17) = .agg #[.int .u64 (dgl (r) 0 : Nat), .int .u64 (dgl (r) 1 : Nat), .int .u64 (dgl (r) 2 : Nat), .int .u64 (dgl (r) 3 : Nat), .int .u64 (dgl (r) 4 : Nat), .int .u64 (dgl (r) 5 : Nat), .int .u64 (dgl (r) 6 : Nat), .int .u64 (dgl (r) 7 : Nat)] := hL 17 (by decide +kernel)
            have e20 : ρ (.tmp 20) = .agg #[.int .u64 (dgl (s) 0 : Nat), .int .u64 (dgl (s) 1 : Nat), .int .u64 (dgl (s) 2 : Nat), .int .u64 (dgl (s) 3 : Nat), .int .u64 (dgl (s) 4 : Nat), .int .u64 (dgl (s) 5 : Nat), .int .u64 (dgl (s) 6 : Nat), .int .u64 (dgl (s) 7 : Nat)] := hL 20 (by decide +kernel)
            simp [go_sem, hc, hf, e17, e20]
            refine (HSUB.out W).mono ?_
            rintro e w' ⟨rfl, hb⟩
            exact ⟨_, rfl, by first | exact hb | (subst hb; exact Below.refl _ _), rfl⟩
          refine kSt rfl (fun φ hφ => gStep_run rfl (gRun_move 21 16 (.inl rfl) rfl (by decide +kernel) (fun v w h => h))) ?_
          refine kSt rfl (fun φ hφ => gStep_run rfl ?_) ?_
          · intro ρ W hC hc hf hL
            have e16 : ρ (.tmp 16) = .tuple #[.agg #[.int .u64 (dgl (x) 0 : Nat), .int .u64 (dgl (x) 1 : Nat), .int .u64 (dgl (x) 2 : Nat), .int .u64 (dgl (x) 3 : Nat), .int .u64 (dgl (x) 4 : Nat), .int .u64 (dgl (x) 5 : Nat), .int .u64 (dgl (x) 6 : Nat), .int .u64 (dgl (x) 7 : Nat)], .bool true] := hL 16 (by decide +kernel)
            simp [go_sem, hc, hf, e16]
            exact ⟨Below.refl _ _, rfl⟩
          refine kSt rfl (fun φ hφ => gStep_run rfl ?_) ?_
          · intro ρ W hC hc hf hL
            have e16 : ρ (.tmp 16) = .tuple #[.agg #[.int .u64 (dgl (x) 0 : Nat), .int .u64 (dgl (x) 1 : Nat), .int .u64 (dgl (x) 2 : Nat), .int .u64 (dgl (x) 3 : Nat), .int .u64 (dgl (x) 4 : Nat), .int .u64 (dgl (x) 5 : Nat), .int .u64 (dgl (x) 6 : Nat), .int .u64 (dgl (x) 7 : Nat)], .bool true] := hL 16 (by decide +kernel)
            simp [go_sem, hc, hf, e16]
            exact ⟨Below.refl _ _, rfl⟩
          refine kSt rfl (fun φ hφ => gStep_run rfl ?_) ?_
          · intro ρ W hC hc hf hL
            have hφ0 : φ 9 = false := hφ 9 (by simp) (by kernel_rfl)
            simp [go_sem, hc, hf]
            refine ⟨below_allocs _ _, ?_⟩
            show (bif φ 9 then SlotIs.box (wr.heap.size) (dgl x) else SlotIs.box (wr.heap.size) (fun _ => 0)).R _ _
            rw [hφ0]
            exact ⟨_, rfl, hC.2.size, liesF_new _ (fun _ => 0) _, fun i => by simp [go_sem]⟩
          refine kStS rfl ⟨rfl, rfl, ?_⟩ ?_
          · intro φ ρ W hφ hC hc hL
            have b8 := hL 8 (by decide +kernel)
            have e22 : ρ (.tmp 22) = .agg #[.int .u64 (dgl (x) 0 : Nat), .int .u64 (dgl (x) 1 : Nat), .int .u64 (dgl (x) 2 : Nat), .int .u64 (dgl (x) 3 : Nat), .int .u64 (dgl (x) 4 : Nat), .int .u64 (dgl (x) 5 : Nat), .int .u64 (dgl (x) 6 : Nat), .int .u64 (dgl (x) 7 : Nat)] := hL 22 (by decide +kernel)
            have bx : (bif φ 9 then SlotIs.box (wr.heap.size) (dgl x) else SlotIs.box (wr.heap.size) (fun _ => 0)).R (ρ (.tmp 8)) W := hL 8 (by decide +kernel)
            rw [hφ] at bx
            obtain ⟨px, ex, qx, lx, zx⟩ := bx
            have hz := lx.1
            have hzl := lx.2
            refine gUpon_of ((((((((W.setCell ⟨px, 0, none⟩ (.int .u64 (dgl x 0 : Nat))).setCell ⟨px, 1, none⟩ (.int .u64 (dgl x 1 : Nat))).setCell ⟨px, 2, none⟩ (.int .u64 (dgl x 2 : Nat))).setCell ⟨px, 3, none⟩ (.int .u64 (dgl x 3 : Nat))).setCell ⟨px, 4, none⟩ (.int .u64 (dgl x 4 : Nat))).setCell ⟨px, 5, none⟩ (.int .u64 (dgl x 5 : Nat))).setCell ⟨px, 6, none⟩ (.int .u64 (dgl x 6 : Nat))).setCell ⟨px, 7, none⟩ (.int .u64 (dgl x 7 : Nat))) ?_ (fun _ => ?_)
            · simp [go_sem, hc, e22, ex, hz, hzl, zx, gUpon]
            have hs8 := below_set8 (Below.refl wr.heap.size W) px qx (.int .u64 (dgl x 0 : Nat)) (.int .u64 (dgl x 1 : Nat)) (.int .u64 (dgl x 2 : Nat)) (.int .u64 (dgl x 3 : Nat)) (.int .u64 (dgl x 4 : Nat)) (.int .u64 (dgl x 5 : Nat)) (.int .u64 (dgl x 6 : Nat)) (.int .u64 (dgl x 7 : Nat))
            refine ⟨⟨hC.1.under hs8 HPC.out, hC.2.trans hs8⟩, fun t => ?_⟩
            refine (tbl_imp rfl (fun _ => val_imp) (tbl_imp rfl (fun _ => val_imp) (tbl_imp rfl (fun _ => val_imp) (tbl_imp rfl (fun _ => val_imp) (tbl_imp rfl (fun _ => val_imp) (tbl_imp rfl (fun _ => val_imp) (tbl_imp rfl (fun _ => val_imp) (tbl_imp rfl (fun _ => val_imp) (tbl_imp rfl (fun ht h => ?_) (tbl_imp rfl (fun _ => val_imp) tbl_nil_imp))))))))))
            · subst ht
              show (bif (φ 9 || true) then SlotIs.box (wr.heap.size) (dgl x) else SlotIs.box (wr.heap.size) (fun _ => 0)).R _ _
              rw [Bool.or_true]
              exact ⟨px, ex, qx, set8_same W px (dgl x) (fun _ => 0) lx, fun i => by simpa [go_sem] using zx i⟩
          refine kSt rfl (fun φ hφ => gStep_run rfl (gRun_move 23 9 (.inr rfl) rfl (by decide +kernel) (fun v w h => h))) ?_
          exact kSt0
        · intro W hC
          refine gFi 17 rfl ?_
          rintro _ rfl
          refine gFi 18 rfl ?_
          rintro _ rfl
          refine gFi 19 rfl ?_
          rintro _ rfl
          refine gFi 20 rfl ?_
          rintro _ rfl
          refine gFi 21 rfl ?_
          rintro _ rfl
          refine gFi 16 rfl ?_
          rintro _ rfl
          refine gFi 22 rfl ?_
          rintro _ rfl
          refine gFi 23 rfl ?_
          rintro _ rfl
          refine gFi 8 rfl ?_
          rintro _ ⟨p8, rfl, q8, l8, z8⟩
          refine gFiN rfl ?_
          refine gFi 9 rfl ?_
          rintro _ rfl
          refine gFi0 ?_
          simp only [List.drop_succ_cons, List.drop_zero, Act.put, List.setIfInBounds_toArray, List.set_cons_succ, List.set_cons_zero]
          have HC := hide hC
          have HL := hide l8
          clear hC l8 z8
          have HS2 := hide HC.out.1
          have HA2 := hide (apart_of (B := w.heap.size) HC.out.2)
          clear HC HL q8
          have hl2 := HS2.out.lr.1
          have HNN := hide HS2.out.n8
          have HI2 := hide (HST.out _ _ _ hI.out HA2.out)
          have HCL := hide (HCA.out p _ hp HI2.out (Nat.le_trans HPC.out HA2.out.size) HNN.out)
          rw [HDG.out, HLF.out] at HCL
          clear HI2
          go_wp2_with fail
          refine HCL.out.mono ?_
          rintro e w9 ⟨rfl, hI9, hk9⟩
          clear HCL
          have HI9 := hide hI9
          have HS9 := hide (HS2.out.kept hk9)
          clear hI9 hk9 hl2 HS2
          cases hgo : go p
          · have HGO := hide hgo
            clear hgo
            go_wp2
            rw [Exit.noGoto_normal]
            exact bodyPost_end (v := .tuple #[]) (by simp [results, Tryd.results50, go_sem]) rfl ⟨rfl, p, by omega, HI9.out, .inr ⟨hp, HGO.out⟩⟩
          · clear hgo
            have hw : IntKind.i64.wrap ((p : Int) - 1) = (p : Int) - 1 := by rw [IntKind.wrap_i64]; omega
            go_wp2
            go_roundw
            case rel => exact ⟨p, (p : Int) - 1, r, by omega, hide rfl, rfl, hide (HLF.out.symm), HI9, HS9⟩
            case measure => first | (simp [intOf]; done) | (simp [intOf]; omega)
      · have hlo : decide (r < s) = false := decide_eq_false hlt
        rw [hlo] at HSUB
        obtain ⟨h1, h2⟩ := HON.out hlt
        have HDG := hide h1
        have HLF := hide h2
        clear h1 h2 HON HOFF HLO hlo hlt hr0
        go_upto_region 5 with fail
        refine wp_region_storeK 11 [9] [17, 18, 19, 20, 21, 16, 22, 23, 8, 9] (fun bs => [(17, .val (.agg #[.int .u64 (dgl (r) 0 : Nat), .int .u64 (dgl (r) 1 : Nat), .int .u64 (dgl (r) 2 : Nat), .int .u64 (dgl (r) 3 : Nat), .int .u64 (dgl (r) 4 : Nat), .int .u64 (dgl (r) 5 : Nat), .int .u64 (dgl (r) 6 : Nat), .int .u64 (dgl (r) 7 : Nat)])), (18, .val (.agg #[.int .u64 (dgl (d) 0 : Nat), .int .u64 (dgl (d) 1 : Nat), .int .u64 (dgl (d) 2 : Nat), .int .u64 (dgl (d) 3 : Nat), .int .u64 (dgl (d) 4 : Nat), .int .u64 (dgl (d) 5 : Nat), .int .u64 (dgl (d) 6 : Nat), .int .u64 (dgl (d) 7 : Nat)])), (19, .val (.int .i64 (p : Nat))), (20, .val (.agg #[.int .u64 (dgl (s) 0 : Nat), .int .u64 (dgl (s) 1 : Nat), .int .u64 (dgl (s) 2 : Nat), .int .u64 (dgl (s) 3 : Nat), .int .u64 (dgl (s) 4 : Nat), .int .u64 (dgl (s) 5 : Nat), .int .u64 (dgl (s) 6 : Nat), .int .u64 (dgl (s) 7 : Nat)])), (21, .val (.tuple #[.agg #[.int .u64 (dgl (x) 0 : Nat), .int .u64 (dgl (x) 1 : Nat), .int .u64 (dgl (x) 2 : Nat), .int .u64 (dgl (x) 3 : Nat), .int .u64 (dgl (x) 4 : Nat), .int .u64 (dgl (x) 5 : Nat), .int .u64 (dgl (x) 6 : Nat), .int .u64 (dgl (x) 7 : Nat)], .bool false])), (16, .val (.tuple #[.agg #[.int .u64 (dgl (x) 0 : Nat), .int .u64 (dgl (x) 1 : Nat), .int .u64 (dgl (x) 2 : Nat), .int .u64 (dgl (x) 3 : Nat), .int .u64 (dgl (x) 4 : Nat), .int .u64 (dgl (x) 5 : Nat), .int .u64 (dgl (x) 6 : Nat), .int .u64 (dgl (x) 7 : Nat)], .bool false])), (22, .val (.agg #[.int .u64 (dgl (x) 0 : Nat), .int .u64 (dgl (x) 1 : Nat), .int .u64 (dgl (x) 2 : Nat), .int .u64 (dgl (x) 3 : Nat), .int .u64 (dgl (x) 4 : Nat), .int .u64 (dgl (x) 5 : Nat), .int .u64 (dgl (x) 6 : Nat), .int .u64 (dgl (x) 7 : Nat)])), (23, .val (.bool false)), (8, bif bs.headD false then SlotIs.box wr.heap.size (dgl x) else SlotIs.box wr.heap.size (fun _ => 0)), (9, .val (.bool false))])
          (fun _ W => RsSt n d r w W ∧ Below wr.heap.size wr W) (fun bs => rfl) mixedOk (by kernel_rfl) (by kernel_rfl) (by kernel_rfl) (⟨hst.out.below (Below.refl _ _).drew, (Below.refl _ _).drew⟩) (fun bs W W' h hb => ⟨h.1.below hb, h.2.trans (hb.mono h.2.size)⟩) ?_ ?_
        · refine kSt rfl (fun φ hφ => gStep_run rfl ?_) ?_
          · intro ρ W hC hc hf hL
            have e6 : ρ (.tmp 6) = .pointer (some ⟨w.heap.size + 2, 0, none⟩) := hL 6 (by decide +kernel)
            have hl := hC.1.lr.1
            simp [go_sem, hc, hf, e6, hl]
            exact ⟨Below.refl _ _, rfl⟩
          refine kSt rfl (fun φ hφ => gStep_run rfl ?_) ?_
          · intro ρ W hC hc hf hL
            have e4 : ρ (.tmp 4) = .pointer (some ⟨w.heap.size + 1, 0, none⟩) := hL 4 (by decide +kernel)
            have hl := hC.1.ld.1
            simp [go_sem, hc, hf, e4, hl]
            exact ⟨Below.refl _ _, rfl⟩
          refine kSt rfl (fun φ hφ => gStep_run rfl (gRun_move 7 19 (.inl rfl) rfl (by decide +kernel) (fun v w h => h))) ?_
          refine kSt rfl (fun φ hφ => gStep_run rfl ?_) ?_
          · intro ρ W hC hc hf hL
            have e18 : ρ (.tmp 18) = .agg #[.int .u64 (dgl (d) 0 : Nat), .int .u64 (dgl (d) 1 : Nat), .int .u64 (dgl (d) 2 : Nat), .int .u64 (dgl (d) 3 : Nat), .int .u64 (dgl (d) 4 : Nat), .int .u64 (dgl (d) 5 : Nat), .int .u64 (dgl (d) 6 : Nat), .int .u64 (dgl (d) 7 : Nat)] := hL 18 (by decide +kernel)
            have e19 : ρ (.tmp 19) = .int .i64 (p : Nat) := hL 19 (by decide +kernel)
            simp [go_sem, hc, hf, e18, e19]
            refine (HSHL.out W).mono ?_
            rintro e w' ⟨rfl, hb⟩
            exact ⟨_, rfl, by first | exact hb | (subst hb; exact Below.refl _ _), rfl⟩
          refine kSt rfl (fun φ hφ => gStep_run rfl ?_) ?_
          · intro ρ W hC hc hf hL
            have e17 : ρ (.tmp 17) = .agg #[.int .u64 (dgl (r) 0 : Nat), .int .u64 (dgl (r) 1 : Nat), .int .u64 (dgl (r) 2 : Nat), .int .u64 (dgl (r) 3 : Nat), .int .u64 (dgl (r) 4 : Nat), .int .u64 (dgl (r) 5 : Nat), .int .u64 (dgl (r) 6 : Nat), .int .u64 (dgl (r) 7 : Nat)] := hL 17 (by decide +kernel)
            have e20 : ρ (.tmp 20) = .agg #[.int .u64 (dgl (s) 0 : Nat), .int .u64 (dgl (s) 1 : Nat), .int .u64 (dgl (s) 2 : Nat), .int .u64 (dgl (s) 3 : Nat), .int .u64 (dgl (s) 4 : Nat), .int .u64 (dgl (s) 5 : Nat), .int .u64 (dgl (s) 6 : Nat), .int .u64 (dgl (s) 7 : Nat)] := hL 20 (by decide +kernel)
            simp [go_sem, hc, hf, e17, e20]
            refine (HSUB.out W).mono ?_
            rintro e w' ⟨rfl, hb⟩
            exact ⟨_, rfl, by first | exact hb | (subst hb; exact Below.refl _ _), rfl⟩
          refine kSt rfl (fun φ hφ => gStep_run rfl (gRun_move 21 16 (.inl rfl) rfl (by decide +kernel) (fun v w h => h))) ?_
          refine kSt rfl (fun φ hφ => gStep_run rfl ?_) ?_
          · intro ρ W hC hc hf hL
            have e16 : ρ (.tmp 16) = .tuple #[.agg #[.int .u64 (dgl (x) 0 : Nat), .int .u64 (dgl (x) 1 : Nat), .int .u64 (dgl (x) 2 : Nat), .int .u64 (dgl (x) 3 : Nat), .int .u64 (dgl (x) 4 : Nat), .int .u64 (dgl (x) 5 : Nat), .int .u64 (dgl (x) 6 : Nat), .int .u64 (dgl (x) 7 : Nat)], .bool false] := hL 16 (by decide +kernel)
            simp [go_sem, hc, hf, e16]
            exact ⟨Below.refl _ _, rfl⟩
          refine kSt rfl (fun φ hφ => gStep_run rfl ?_) ?_
          · intro ρ W hC hc hf hL
            have e16 : ρ (.tmp 16) = .tuple #[.agg #[.int .u64 (dgl (x) 0 : Nat), .int .u64 (dgl (x) 1 : Nat), .int .u64 (dgl (x) 2 : Nat), .int .u64 (dgl (x) 3 : Nat), .int .u64 (dgl (x) 4 : Nat), .int .u64 (dgl (x) 5 : Nat), .int .u64 (dgl (x) 6 : Nat), .int .u64 (dgl (x) 7 : Nat)], .bool false] := hL 16 (by decide +kernel)
            simp [go_sem, hc, hf, e16]
            exact ⟨Below.refl _ _, rfl⟩
          refine kSt rfl (fun φ hφ => gStep_run rfl ?_) ?_
          · intro ρ W hC hc hf hL
            have hφ0 : φ 9 = false := hφ 9 (by simp) (by kernel_rfl)
            simp [go_sem, hc, hf]
            refine ⟨below_allocs _ _, ?_⟩
            show (bif φ 9 then SlotIs.box (wr.heap.size) (dgl x) else SlotIs.box (wr.heap.size) (fun _ => 0)).R _ _
            rw [hφ0]
            exact ⟨_, rfl, hC.2.size, liesF_new _ (fun _ => 0) _, fun i => by simp [go_sem]⟩
          refine kStS rfl ⟨rfl, rfl, ?_⟩ ?_
          · intro φ ρ W hφ hC hc hL
            have b8 := hL 8 (by decide +kernel)
            have e22 : ρ (.tmp 22) = .agg #[.int .u64 (dgl (x) 0 : Nat), .int .u64 (dgl (x) 1 : Nat), .int .u64 (dgl (x) 2 : Nat), .int .u64 (dgl (x) 3 : Nat), .int .u64 (dgl (x) 4 : Nat), .int .u64 (dgl (x) 5 : Nat), .int .u64 (dgl (x) 6 : Nat), .int .u64 (dgl (x) 7 : Nat)] := hL 22 (by decide +kernel)
            have bx : (bif φ 9 then SlotIs.box (wr.heap.size) (dgl x) else SlotIs.box (wr.heap.size) (fun _ => 0)).R (ρ (.tmp 8)) W := hL 8 (by decide +kernel)
            rw [hφ] at bx
            obtain ⟨px, ex, qx, lx, zx⟩ := bx
            have hz := lx.1
            have hzl := lx.2
            refine gUpon_of ((((((((W.setCell ⟨px, 0, none⟩ (.int .u64 (dgl x 0 : Nat))).setCell ⟨px, 1, none⟩ (.int .u64 (dgl x 1 : Nat))).setCell ⟨px, 2, none⟩ (.int .u64 (dgl x 2 : Nat))).setCell ⟨px, 3, none⟩ (.int .u64 (dgl x 3 : Nat))).setCell ⟨px, 4, none⟩ (.int .u64 (dgl x 4 : Nat))).setCell ⟨px, 5, none⟩ (.int .u64 (dgl x 5 : Nat))).setCell ⟨px, 6, none⟩ (.int .u64 (dgl x 6 : Nat))).setCell ⟨px, 7, none⟩ (.int .u64 (dgl x 7 : Nat))) ?_ (fun _ => ?_)
            · simp [go_sem, hc, e22, ex, hz, hzl, zx, gUpon]
            have hs8 := below_set8 (Below.refl wr.heap.size W) px qx (.int .u64 (dgl x 0 : Nat)) (.int .u64 (dgl x 1 : Nat)) (.int .u64 (dgl x 2 : Nat)) (.int .u64 (dgl x 3 : Nat)) (.int .u64 (dgl x 4 : Nat)) (.int .u64 (dgl x 5 : Nat)) (.int .u64 (dgl x 6 : Nat)) (.int .u64 (dgl x 7 : Nat))
            refine ⟨⟨hC.1.under hs8 HPC.out, hC.2.trans hs8⟩, fun t => ?_⟩
            refine (tbl_imp rfl (fun _ => val_imp) (tbl_imp rfl (fun _ => val_imp) (tbl_imp rfl (fun _ => val_imp) (tbl_imp rfl (fun _ => val_imp) (tbl_imp rfl (fun _ => val_imp) (tbl_imp rfl (fun _ => val_imp) (tbl_imp rfl (fun _ => val_imp) (tbl_imp rfl (fun _ => val_imp) (tbl_imp rfl (fun ht h => ?_) (tbl_imp rfl (fun _ => val_imp) tbl_nil_imp))))))))))
            · subst ht
              show (bif (φ 9 || true) then SlotIs.box (wr.heap.size) (dgl x) else SlotIs.box (wr.heap.size) (fun _ => 0)).R _ _
              rw [Bool.or_true]
              exact ⟨px, ex, qx, set8_same W px (dgl x) (fun _ => 0) lx, fun i => by simpa [go_sem] using zx i⟩
          refine kSt rfl (fun φ hφ => gStep_run rfl (gRun_move 23 9 (.inr rfl) rfl (by decide +kernel) (fun v w h => h))) ?_
          exact kSt0
        · intro W hC
          refine gFi 17 rfl ?_
          rintro _ rfl
          refine gFi 18 rfl ?_
          rintro _ rfl
          refine gFi 19 rfl ?_
          rintro _ rfl
          refine gFi 20 rfl ?_
          rintro _ rfl
          refine gFi 21 rfl ?_
          rintro _ rfl
          refine gFi 16 rfl ?_
          rintro _ rfl
          refine gFi 22 rfl ?_
          rintro _ rfl
          refine gFi 23 rfl ?_
          rintro _ rfl
          refine gFi 8 rfl ?_
          rintro _ ⟨p8, rfl, q8, l8, z8⟩
          refine gFiN rfl ?_
          refine gFi 9 rfl ?_
          rintro _ rfl
          refine gFi0 ?_
          simp only [List.drop_succ_cons, List.drop_zero, Act.put, List.setIfInBounds_toArray, List.set_cons_succ, List.set_cons_zero]
          have HC := hide hC
          have HL := hide l8
          clear hC l8 z8
          go_upto_region 8 with fail
          have HP8 := hide (show w.heap.size + 3 ≤ p8 from Nat.le_trans HPC.out q8)
          refine wp_region_storeK 3 [2] [26, 10] (fun bs => [(26, .val (.agg #[.int .u64 (dgl (x) 0 : Nat), .int .u64 (dgl (x) 1 : Nat), .int .u64 (dgl (x) 2 : Nat), .int .u64 (dgl (x) 3 : Nat), .int .u64 (dgl (x) 4 : Nat), .int .u64 (dgl (x) 5 : Nat), .int .u64 (dgl (x) 6 : Nat), .int .u64 (dgl (x) 7 : Nat)])), (10, .val (.int .i64 1))])
            (fun bs W => (∀ c, bs.headD false = c → RsSt n d (bif c then x else r) w W) ∧ Apart3 w.heap.size wr W ∧ LiesF W p8 (dgl x)) (fun bs => rfl) mixedOk (by kernel_rfl) (by kernel_rfl) (by kernel_rfl) (⟨fun c hc => by subst hc; exact HC.out.1.below (Below.refl _ _).drew, (apart_of HC.out.2).drew, HL.out.below (Below.refl _ _).drew⟩) (fun bs W W' h hb => ⟨fun c hc => (h.1 c hc).below hb, h.2.1.then hb, h.2.2.below hb⟩) ?_ ?_
          · refine kSt rfl (fun φ hφ => gStep_run rfl ?_) ?_
            · intro ρ W hC hc hf hL
              have e8 : ρ (.tmp 8) = .pointer (some ⟨p8, 0, none⟩) := hL 8 (by decide +kernel)
              have hl := hC.2.2.1
              simp [go_sem, hc, hf, e8, hl]
              exact ⟨Below.refl _ _, rfl⟩
            refine kSt rfl (fun φ hφ => gStep_run rfl (gRun_const _ 10 (.inr rfl) rfl (fun w => rfl))) ?_
            refine kStS rfl ⟨rfl, rfl, ?_⟩ ?_
            · intro φ ρ W hφ hC hc hL
              have e6 : ρ (.tmp 6) = .pointer (some ⟨w.heap.size + 2, 0, none⟩) := hL 6 (by decide +kernel)
              have e26 : ρ (.tmp 26) = .agg #[.int .u64 (dgl (x) 0 : Nat), .int .u64 (dgl (x) 1 : Nat), .int .u64 (dgl (x) 2 : Nat), .int .u64 (dgl (x) 3 : Nat), .int .u64 (dgl (x) 4 : Nat), .int .u64 (dgl (x) 5 : Nat), .int .u64 (dgl (x) 6 : Nat), .int .u64 (dgl (x) 7 : Nat)] := hL 26 (by decide +kernel)
              have g := hC.1 false (by simp [hφ])
              have hz := g.lr.1
              have hzl := g.lr.2
              have hzf := g.fr
              refine gUpon_of ((((((((W.setCell ⟨w.heap.size + 2, 0, none⟩ (.int .u64 (dgl x 0 : Nat))).setCell ⟨w.heap.size + 2, 1, none⟩ (.int .u64 (dgl x 1 : Nat))).setCell ⟨w.heap.size + 2, 2, none⟩ (.int .u64 (dgl x 2 : Nat))).setCell ⟨w.heap.size + 2, 3, none⟩ (.int .u64 (dgl x 3 : Nat))).setCell ⟨w.heap.size + 2, 4, none⟩ (.int .u64 (dgl x 4 : Nat))).setCell ⟨w.heap.size + 2, 5, none⟩ (.int .u64 (dgl x 5 : Nat))).setCell ⟨w.heap.size + 2, 6, none⟩ (.int .u64 (dgl x 6 : Nat))).setCell ⟨w.heap.size + 2, 7, none⟩ (.int .u64 (dgl x 7 : Nat))) ?_ (fun _ => ?_)
              · simp [go_sem, hc, e6, e26, hz, hzl, hzf, gUpon]
              refine ⟨⟨fun c hc => ?_, hC.2.1.set8 _ _ _ _ _ _ _ _, lies_ne hC.2.2 (by have := HP8.out; omega)⟩, fun t => ?_⟩
              · have hc1 : c = true := by rw [← hc]; simp
                subst hc1
                exact g.set8 x
              refine (tbl_imp rfl (fun _ => val_imp) (tbl_imp rfl (fun _ => val_imp) tbl_nil_imp))
            exact kSt0
          · intro W hC
            refine gFi 26 rfl ?_
            rintro _ rfl
            refine gFi 10 rfl ?_
            rintro _ rfl
            refine gFiN rfl ?_
            refine gFi0 ?_
            simp only [List.drop_succ_cons, List.drop_zero, Act.put, List.setIfInBounds_toArray, List.set_cons_succ, List.set_cons_zero]
            have HS2 := hide (hC.1 true rfl)
            have HA2 := hide hC.2.1
            clear hC HC HL
            have hl2 := HS2.out.lr.1
            have HNN := hide HS2.out.n8
            have HI2 := hide (HST.out _ _ _ hI.out HA2.out)
            have HCL := hide (HCA.out p _ hp HI2.out (Nat.le_trans HPC.out HA2.out.size) HNN.out)
            rw [HDG.out, HLF.out] at HCL
            clear HI2
            go_wp2_with fail
            refine HCL.out.mono ?_
            rintro e w9 ⟨rfl, hI9, hk9⟩
            clear HCL
            have HI9 := hide hI9
            have HS9 := hide (HS2.out.kept hk9)
            clear hI9 hk9 hl2 HS2
            cases hgo : go p
            · have HGO := hide hgo
              clear hgo
              go_wp2
              rw [Exit.noGoto_normal]
              exact bodyPost_end (v := .tuple #[]) (by simp [results, Tryd.results50, go_sem]) rfl ⟨rfl, p, by omega, HI9.out, .inr ⟨hp, HGO.out⟩⟩
            · clear hgo
              have hw : IntKind.i64.wrap ((p : Int) - 1) = (p : Int) - 1 := by rw [IntKind.wrap_i64]; omega
              go_wp2
              go_roundw
              case rel => exact ⟨p, (p : Int) - 1, x, by omega, hide rfl, rfl, hide (HLF.out.symm), HI9, HS9⟩
              case measure => first | (simp [intOf]; done) | (simp [intOf]; omega)
    · obtain rfl : zi = -1 := by have := hzi.out; omega
      obtain rfl : c = 0 := by have := hzi.out; omega
      clear hst
      go_wp2
      exact bodyPost_end (v := .tuple #[]) (by simp [results, Tryd.results50, go_sem]) rfl ⟨rfl, 0, by omega, hI.out, .inl rfl⟩

end Go.Proofs.YtbngaajhdaciaaaDoor

/- Two results in boxes; what a closure may change; radix2.Divide's closure. -/
set_option linter.unusedVariables false
set_option linter.unusedSimpArgs false
set_option maxRecDepth 8000
namespace Go.Proofs.YtbngaajhdaciaaaDoor
open Go.RowKit Plain

/-- Two results of eight limbs at r1 and r2. -/
structure R2St (r1 r2 x y : Nat) (w W : World) : Prop where
  lx : LiesF W r1 (dgl x)
  fx : ∀ i, W.frozen? ⟨r1, i, none⟩ = false
  ly : LiesF W r2 (dgl y)
  fy : ∀ i, W.frozen? ⟨r2, i, none⟩ = false
  bel : Below w.heap.size w W
  o1 : w.heap.size ≤ r1
  o2 : r1 < r2
section
variable {r1 r2 x y : Nat} {w W W' : World}
theorem R2St.under (h : R2St r1 r2 x y w W) {C : Nat} (hb : Below C W W') (hc : r2 < C) : R2St r1 r2 x y w W' := by
  have h1 := h.o1
  have h2 := h.o2
  exact ⟨lies_box h.lx hb (by omega), fun i => (hb.frozen (p := ⟨r1, i, none⟩) (show r1 < C by omega)).trans (h.fx i), lies_box h.ly hb hc, fun i => (hb.frozen (p := ⟨r2, i, none⟩) hc).trans (h.fy i), h.bel.trans (hb.mono (by omega)), h.o1, h.o2⟩
theorem R2St.below (h : R2St r1 r2 x y w W) (hb : Below W.heap.size W W') : R2St r1 r2 x y w W' := h.under hb h.ly.2
theorem R2St.set1 (h : R2St r1 r2 x y w W) (z : Nat) : R2St r1 r2 z y w ((((((((W.setCell ⟨r1, 0, none⟩ (.int .u64 (dgl z 0 : Nat))).setCell ⟨r1, 1, none⟩ (.int .u64 (dgl z 1 : Nat))).setCell ⟨r1, 2, none⟩ (.int .u64 (dgl z 2 : Nat))).setCell ⟨r1, 3, none⟩ (.int .u64 (dgl z 3 : Nat))).setCell ⟨r1, 4, none⟩ (.int .u64 (dgl z 4 : Nat))).setCell ⟨r1, 5, none⟩ (.int .u64 (dgl z 5 : Nat))).setCell ⟨r1, 6, none⟩ (.int .u64 (dgl z 6 : Nat))).setCell ⟨r1, 7, none⟩ (.int .u64 (dgl z 7 : Nat))) := by
  have h1 := h.o1
  have h2 := h.o2
  exact ⟨set8_same W r1 (dgl z) (dgl x) h.lx, fun i => by simpa [go_sem] using h.fx i, lies_ne h.ly (by omega), fun i => by simpa [go_sem] using h.fy i, below_set8 h.bel _ h1 _ _ _ _ _ _ _ _, h1, h2⟩
theorem R2St.set2 (h : R2St r1 r2 x y w W) (z : Nat) : R2St r1 r2 x z w ((((((((W.setCell ⟨r2, 0, none⟩ (.int .u64 (dgl z 0 : Nat))).setCell ⟨r2, 1, none⟩ (.int .u64 (dgl z 1 : Nat))).setCell ⟨r2, 2, none⟩ (.int .u64 (dgl z 2 : Nat))).setCell ⟨r2, 3, none⟩ (.int .u64 (dgl z 3 : Nat))).setCell ⟨r2, 4, none⟩ (.int .u64 (dgl z 4 : Nat))).setCell ⟨r2, 5, none⟩ (.int .u64 (dgl z 5 : Nat))).setCell ⟨r2, 6, none⟩ (.int .u64 (dgl z 6 : Nat))).setCell ⟨r2, 7, none⟩ (.int .u64 (dgl z 7 : Nat))) := by
  have h1 := h.o1
  have h2 := h.o2
  exact ⟨lies_ne h.lx (by omega), fun i => by simpa [go_sem] using h.fx i, set8_same W r2 (dgl z) (dgl y) h.ly, fun i => by simpa [go_sem] using h.fy i, below_set8 h.bel _ (by omega) _ _ _ _ _ _ _ _, h1, h2⟩
end
theorem r2_new (w W : World) (hb : Below w.heap.size w W) (e1 e2 : TypeId) : R2St W.heap.size (W.heap.size + 1) 0 0 w ((W.alloc (.cells #[.int .u64 0, .int .u64 0, .int .u64 0, .int .u64 0, .int .u64 0, .int .u64 0, .int .u64 0, .int .u64 0] e1)).alloc (.cells #[.int .u64 0, .int .u64 0, .int .u64 0, .int .u64 0, .int .u64 0, .int .u64 0, .int .u64 0, .int .u64 0] e2)) := by
  have h1 := liesF_new W (fun _ => 0) e1
  have h2 := liesF_new (W.alloc (.cells #[.int .u64 0, .int .u64 0, .int .u64 0, .int .u64 0, .int .u64 0, .int .u64 0, .int .u64 0, .int .u64 0] e1)) (fun _ => 0) e2
  rw [World.size_alloc] at h2
  refine ⟨?_, fun i => by simp [go_sem], ?_, fun i => by simp [go_sem], below_trans (below_trans hb (below_allocs _ _)) (below_allocs _ _), hb.size, by omega⟩
  · rw [dgl_z]
    exact h1.alloc _
  · rw [dgl_z]
    exact h2

/-- Only the blocks p and q may have changed. -/
structure Only2 (p q : Nat) (w w' : World) : Prop where
  os : w'.os = w.os
  tape : w'.tape = w.tape
  output : w'.output = w.output
  size : w.heap.size ≤ w'.heap.size
  block : ∀ k, k < w.heap.size → k ≠ p → k ≠ q → w'.heap[k]? = w.heap[k]?
theorem only2_of {p q : Nat} {w w' : World} (h : Below w.heap.size w w') : Only2 p q w w' := ⟨h.os, h.tape, h.output, h.size, fun k hk _ _ => h.block k hk⟩
theorem Only2.setp {p q : Nat} {w w' : World} (h : Only2 p q w w') (i : Nat) (u : Value) : Only2 p q w (w'.setCell ⟨p, i, none⟩ u) :=
  ⟨h.os, h.tape, h.output, by simpa [go_sem] using h.size, fun k hk h1 h2 => (Below.heap_setCell _ _ _ _ h1).trans (h.block k hk h1 h2)⟩
theorem Only2.setq {p q : Nat} {w w' : World} (h : Only2 p q w w') (i : Nat) (u : Value) : Only2 p q w (w'.setCell ⟨q, i, none⟩ u) :=
  ⟨h.os, h.tape, h.output, by simpa [go_sem] using h.size, fun k hk h1 h2 => (Below.heap_setCell _ _ _ _ h2).trans (h.block k hk h1 h2)⟩
theorem Only2.setp8 {p q : Nat} {w W : World} (h : Only2 p q w W) (f : Nat → Nat) : Only2 p q w ((((((((W.setCell ⟨p, 0, none⟩ (.int .u64 (f 0 : Nat))).setCell ⟨p, 1, none⟩ (.int .u64 (f 1 : Nat))).setCell ⟨p, 2, none⟩ (.int .u64 (f 2 : Nat))).setCell ⟨p, 3, none⟩ (.int .u64 (f 3 : Nat))).setCell ⟨p, 4, none⟩ (.int .u64 (f 4 : Nat))).setCell ⟨p, 5, none⟩ (.int .u64 (f 5 : Nat))).setCell ⟨p, 6, none⟩ (.int .u64 (f 6 : Nat))).setCell ⟨p, 7, none⟩ (.int .u64 (f 7 : Nat))) := (((((((h.setp _ _).setp _ _).setp _ _).setp _ _).setp _ _).setp _ _).setp _ _).setp _ _
theorem Only2.setq8 {p q : Nat} {w W : World} (h : Only2 p q w W) (f : Nat → Nat) : Only2 p q w ((((((((W.setCell ⟨q, 0, none⟩ (.int .u64 (f 0 : Nat))).setCell ⟨q, 1, none⟩ (.int .u64 (f 1 : Nat))).setCell ⟨q, 2, none⟩ (.int .u64 (f 2 : Nat))).setCell ⟨q, 3, none⟩ (.int .u64 (f 3 : Nat))).setCell ⟨q, 4, none⟩ (.int .u64 (f 4 : Nat))).setCell ⟨q, 5, none⟩ (.int .u64 (f 5 : Nat))).setCell ⟨q, 6, none⟩ (.int .u64 (f 6 : Nat))).setCell ⟨q, 7, none⟩ (.int .u64 (f 7 : Nat))) := (((((((h.setq _ _).setq _ _).setq _ _).setq _ _).setq _ _).setq _ _).setq _ _).setq _ _
theorem Only2.then {p q : Nat} {w w' w2 : World} (h : Only2 p q w w') (hb : Below w'.heap.size w' w2) : Only2 p q w w2 :=
  ⟨hb.os.trans h.os, hb.tape.trans h.tape, hb.output.trans h.output, Nat.le_trans h.size hb.size, fun k hk h1 h2 => (hb.block k (Nat.lt_of_lt_of_le hk h.size)).trans (h.block k hk h1 h2)⟩
theorem Only2.lies {p q : Nat} {w w' : World} (h : Only2 p q w w') {b : Nat} {f : Nat → Nat} (hl : LiesF w b f) (h1 : b ≠ p) (h2 : b ≠ q) : LiesF w' b f :=
  ⟨fun i hi => (World.cell?_of_block (w := w) (h.block b hl.2 h1 h2)).trans (hl.1 i hi), Nat.lt_of_lt_of_le hl.2 h.size⟩
theorem Only2.frozen {p q : Nat} {w w' : World} (h : Only2 p q w w') {b i : Nat} (hl : b < w.heap.size) (h1 : b ≠ p) (h2 : b ≠ q) : w'.frozen? ⟨b, i, none⟩ = w.frozen? ⟨b, i, none⟩ := World.frozen?_of_block (w := w) (h.block b hl h1 h2)
theorem Only2.cell {p q : Nat} {w w' : World} (h : Only2 p q w w') {b i : Nat} (hl : b < w.heap.size) (h1 : b ≠ p) (h2 : b ≠ q) : w'.cell? ⟨b, i, none⟩ = w.cell? ⟨b, i, none⟩ := World.cell?_of_block (w := w) (h.block b hl h1 h2)
theorem Only2.under {p q C : Nat} {w0 w w' : World} (h : Only2 p q w w') (hb : Below C w0 w) (h1 : C ≤ p) (h2 : C ≤ q) (hc : C ≤ w0.heap.size) : Below C w0 w' :=
  ⟨h.os.trans hb.os, h.tape.trans hb.tape, h.output.trans hb.output, Nat.le_trans hb.size h.size, fun k hk => (h.block k (Nat.lt_of_lt_of_le hk (Nat.le_trans hc hb.size)) (by omega) (by omega)).trans (hb.block k hk)⟩
theorem Only2.kept {p q B : Nat} {w w' : World} (h : Only2 p q w w') (h1 : p < B ∨ B + 3 ≤ p) (h2 : q < B ∨ B + 3 ≤ q) (hs : B + 3 ≤ w.heap.size) : Kept3 B w w' :=
  ⟨h.size, fun k h3 h4 => h.block k (by omega) (by omega) (by omega)⟩
theorem Only2.r2 {p q r1 r2 x y : Nat} {w0 w w' : World} (h : Only2 p q w w') (hr : R2St r1 r2 x y w0 w) (hp : r2 < p) (hq : r2 < q) : R2St r1 r2 x y w0 w' := by
  have h1 := hr.o1
  have h2 := hr.o2
  exact ⟨h.lies hr.lx (by omega) (by omega), fun i => (h.frozen hr.lx.2 (by omega) (by omega)).trans (hr.fx i), h.lies hr.ly (by omega) (by omega), fun i => (h.frozen hr.ly.2 (by omega) (by omega)).trans (hr.fy i), h.under hr.bel (by omega) (by omega) (Nat.le_refl _), h1, h2⟩
theorem Apart3.r2 {B r1 r2 x y : Nat} {w0 w w' : World} (h : Apart3 B w w') (hr : R2St r1 r2 x y w0 w) (hb : r2 < B) : R2St r1 r2 x y w0 w' := by
  have h1 := hr.o1
  have h2 := hr.o2
  exact ⟨h.lies hr.lx (.inl (by omega)), fun i => (h.frozen hr.lx.2 (.inl (by omega))).trans (hr.fx i), h.lies hr.ly (.inl hb), fun i => (h.frozen hr.ly.2 (.inl hb)).trans (hr.fy i), h.under hr.bel (by omega) (Nat.le_refl _), h1, h2⟩

theorem wides3_new (W : World) (q s u : Nat) (e : TypeId) (i j : Nat) (hi : i < 3) (hj : j < 8) :
    (W.alloc (.cells #[.int .u64 (dgl q 0 : Nat), .int .u64 (dgl q 1 : Nat), .int .u64 (dgl q 2 : Nat), .int .u64 (dgl q 3 : Nat), .int .u64 (dgl q 4 : Nat), .int .u64 (dgl q 5 : Nat), .int .u64 (dgl q 6 : Nat), .int .u64 (dgl q 7 : Nat), .int .u64 (dgl s 0 : Nat), .int .u64 (dgl s 1 : Nat), .int .u64 (dgl s 2 : Nat), .int .u64 (dgl s 3 : Nat), .int .u64 (dgl s 4 : Nat), .int .u64 (dgl s 5 : Nat), .int .u64 (dgl s 6 : Nat), .int .u64 (dgl s 7 : Nat), .int .u64 (dgl u 0 : Nat), .int .u64 (dgl u 1 : Nat), .int .u64 (dgl u 2 : Nat), .int .u64 (dgl u 3 : Nat), .int .u64 (dgl u 4 : Nat), .int .u64 (dgl u 5 : Nat), .int .u64 (dgl u 6 : Nat), .int .u64 (dgl u 7 : Nat)] e)).cell? ⟨W.heap.size, i * 8 + j, none⟩ = some (.int .u64 (dgl (dg [q, s, u] i) j : Nat)) := by
  rcases (show i = 0 ∨ i = 1 ∨ i = 2 by omega) with rfl | rfl | rfl <;>
  rcases (show j = 0 ∨ j = 1 ∨ j = 2 ∨ j = 3 ∨ j = 4 ∨ j = 5 ∨ j = 6 ∨ j = 7 by omega) with rfl | rfl | rfl | rfl | rfl | rfl | rfl | rfl <;>
  simp [go_sem, dg]
theorem sumN3 (a b c : Nat) : sumN [a, b, c] 3 = a + b + c := by
  show 0 + a + b + c = _
  omega
theorem dg3_lt {a b c X : Nat} (h0 : 0 < X) (ha : a < X) (hb : b < X) (hc : c < X) (i : Nat) : dg [a, b, c] i < X := by
  match i with
  | 0 => exact ha
  | 1 => exact hb
  | 2 => exact hc
  | i + 3 => exact h0

/-- What Divide's closure goes by: what is left, in a box, quotient and rest. -/
structure D1St (l p8 p9 x y : Nat) (w W : World) : Prop where
  ll : LiesF W w.heap.size (dgl l)
  l8 : LiesF W p8 (dgl x)
  f8 : ∀ i, W.frozen? ⟨p8, i, none⟩ = false
  l9 : LiesF W p9 (dgl y)
  f9 : ∀ i, W.frozen? ⟨p9, i, none⟩ = false
  on : Only2 p8 p9 w W
theorem D1St.below {l p8 p9 x y : Nat} {w W W' : World} (h : D1St l p8 p9 x y w W) (hb : Below W.heap.size W W') : D1St l p8 p9 x y w W' :=
  ⟨h.ll.below hb, h.l8.below hb, fun i => (hb.frozen (p := ⟨p8, i, none⟩) h.l8.2).trans (h.f8 i), h.l9.below hb, fun i => (hb.frozen (p := ⟨p9, i, none⟩) h.l9.2).trans (h.f9 i), h.on.then hb⟩
theorem D1St.set8 {l p8 p9 x y : Nat} {w W : World} (h : D1St l p8 p9 x y w W) (z : Nat) (h8 : p8 < w.heap.size) (hne : p8 ≠ p9) : D1St l p8 p9 z y w ((((((((W.setCell ⟨p8, 0, none⟩ (.int .u64 (dgl z 0 : Nat))).setCell ⟨p8, 1, none⟩ (.int .u64 (dgl z 1 : Nat))).setCell ⟨p8, 2, none⟩ (.int .u64 (dgl z 2 : Nat))).setCell ⟨p8, 3, none⟩ (.int .u64 (dgl z 3 : Nat))).setCell ⟨p8, 4, none⟩ (.int .u64 (dgl z 4 : Nat))).setCell ⟨p8, 5, none⟩ (.int .u64 (dgl z 5 : Nat))).setCell ⟨p8, 6, none⟩ (.int .u64 (dgl z 6 : Nat))).setCell ⟨p8, 7, none⟩ (.int .u64 (dgl z 7 : Nat))) :=
  ⟨lies_ne h.ll (by omega), set8_same W p8 (dgl z) (dgl x) h.l8, fun i => by simpa [go_sem] using h.f8 i, lies_ne h.l9 (Ne.symm hne), fun i => by simpa [go_sem] using h.f9 i, h.on.setp8 _⟩

set_option maxHeartbeats 2000000 in
theorem div1_any (b l p8 p9 x y : Nat) (w : World) (hb : b ≤ 1) (hx : x < 2 ^ 128) (h8 : LiesF w p8 (dgl x)) (f8 : ∀ i, w.frozen? ⟨p8, i, none⟩ = false) (h9 : LiesF w p9 (dgl y)) (f9 : ∀ i, w.frozen? ⟨p9, i, none⟩ = false) (hne : p8 ≠ p9) :
    Calls Tryd.prog 51 #[.int .i64 (b : Nat), .agg #[.int .u64 (dgl (l) 0 : Nat), .int .u64 (dgl (l) 1 : Nat), .int .u64 (dgl (l) 2 : Nat), .int .u64 (dgl (l) 3 : Nat), .int .u64 (dgl (l) 4 : Nat), .int .u64 (dgl (l) 5 : Nat), .int .u64 (dgl (l) 6 : Nat), .int .u64 (dgl (l) 7 : Nat)], .pointer (some ⟨p8, 0, none⟩), .pointer (some ⟨p9, 0, none⟩)] w fun e w' => e = .returned (.bool true) ∧ LiesF w' p8 (dgl (x + x + b)) ∧ (∀ i, w'.frozen? ⟨p8, i, none⟩ = false) ∧ LiesF w' p9 (dgl l) ∧ (∀ i, w'.frozen? ⟨p9, i, none⟩ = false) ∧ Only2 p8 p9 w w' := by
  have HS := hide (show D1St l p8 p9 x y w (w.alloc (.cells #[.int .u64 (dgl (l) 0 : Nat), .int .u64 (dgl (l) 1 : Nat), .int .u64 (dgl (l) 2 : Nat), .int .u64 (dgl (l) 3 : Nat), .int .u64 (dgl (l) 4 : Nat), .int .u64 (dgl (l) 5 : Nat), .int .u64 (dgl (l) 6 : Nat), .int .u64 (dgl (l) 7 : Nat)] 24)) from by
    have hbw := below_allocs w (.cells #[.int .u64 (dgl (l) 0 : Nat), .int .u64 (dgl (l) 1 : Nat), .int .u64 (dgl (l) 2 : Nat), .int .u64 (dgl (l) 3 : Nat), .int .u64 (dgl (l) 4 : Nat), .int .u64 (dgl (l) 5 : Nat), .int .u64 (dgl (l) 6 : Nat), .int .u64 (dgl (l) 7 : Nat)] 24)
    exact ⟨liesF_new w (dgl l) _, h8.alloc _, fun i => (hbw.frozen (p := ⟨p8, i, none⟩) h8.2).trans (f8 i), h9.alloc _, fun i => (hbw.frozen (p := ⟨p9, i, none⟩) h9.2).trans (f9 i), only2_of hbw⟩)
  have HOB : Hid (∀ i, i < 8 → dg [b] i = dgl b i) := fun i hi => (dig_one (β := 18446744073709551616) (show b < 18446744073709551616 by omega)).2 i
  have HSU : Hid (∀ v w, RdW w v [x, x, b] → Calls Tryd.prog 33 #[v] w fun e w' => e = .returned (.agg #[.int .u64 (dgl (x + x + b) 0 : Nat), .int .u64 (dgl (x + x + b) 1 : Nat), .int .u64 (dgl (x + x + b) 2 : Nat), .int .u64 (dgl (x + x + b) 3 : Nat), .int .u64 (dgl (x + x + b) 4 : Nat), .int .u64 (dgl (x + x + b) 5 : Nat), .int .u64 (dgl (x + x + b) 6 : Nat), .int .u64 (dgl (x + x + b) 7 : Nat)]) ∧ Below w.heap.size w w') := fun v w hv => by
    have hq : 2 ^ 128 < QQ := by decide +kernel
    have h := prodSum_any [x, x, b] v w hv (fun i => dg3_lt (by omega) (by omega) (by omega) (by omega) i)
    rw [show [x, x, b].length = 3 from rfl, sumN3] at h
    exact h
  have hcv : IntKind.u64.wrap ((b : Nat) : Int) = ((b : Nat) : Int) := by rw [IntKind.wrap_u64]; omega
  have HNE := hide hne
  have HX8 := hide h8.2
  have HX9 := hide h9.2
  clear h8 f8 h9 f9 hb hx hne
  go_enter Tryd.func51, Tryd.ntmps51
  go_upto_region 1 with fail
  refine wp_gen (fun W => D1St l p8 p9 x y w W) HS.out ?_
  clear HS
  rintro W1 h1
  refine wp_region_storeK 10 [9] [7, 8, 9, 10, 11, 12, 13, 14, 15] (fun bs => [(7, .val (.agg #[.int .u64 (dgl (x) 0 : Nat), .int .u64 (dgl (x) 1 : Nat), .int .u64 (dgl (x) 2 : Nat), .int .u64 (dgl (x) 3 : Nat), .int .u64 (dgl (x) 4 : Nat), .int .u64 (dgl (x) 5 : Nat), .int .u64 (dgl (x) 6 : Nat), .int .u64 (dgl (x) 7 : Nat)])), (8, .val (.agg #[.int .u64 (dgl (x) 0 : Nat), .int .u64 (dgl (x) 1 : Nat), .int .u64 (dgl (x) 2 : Nat), .int .u64 (dgl (x) 3 : Nat), .int .u64 (dgl (x) 4 : Nat), .int .u64 (dgl (x) 5 : Nat), .int .u64 (dgl (x) 6 : Nat), .int .u64 (dgl (x) 7 : Nat)])), (9, .val (.int .i64 (b : Nat))), (10, .val (.int .u64 (b : Nat))), (11, bif bs.headD false then SlotIs.any  else SlotIs.rd [b]), (12, .val (.agg #[.int .u64 (dgl (b) 0 : Nat), .int .u64 (dgl (b) 1 : Nat), .int .u64 (dgl (b) 2 : Nat), .int .u64 (dgl (b) 3 : Nat), .int .u64 (dgl (b) 4 : Nat), .int .u64 (dgl (b) 5 : Nat), .int .u64 (dgl (b) 6 : Nat), .int .u64 (dgl (b) 7 : Nat)])), (13, bif bs.headD false then SlotIs.any  else SlotIs.wides w.heap.size [x, x, b]), (14, .val (.agg #[.int .u64 (dgl (x + x + b) 0 : Nat), .int .u64 (dgl (x + x + b) 1 : Nat), .int .u64 (dgl (x + x + b) 2 : Nat), .int .u64 (dgl (x + x + b) 3 : Nat), .int .u64 (dgl (x + x + b) 4 : Nat), .int .u64 (dgl (x + x + b) 5 : Nat), .int .u64 (dgl (x + x + b) 6 : Nat), .int .u64 (dgl (x + x + b) 7 : Nat)])), (15, .val (.agg #[.int .u64 (dgl (l) 0 : Nat), .int .u64 (dgl (l) 1 : Nat), .int .u64 (dgl (l) 2 : Nat), .int .u64 (dgl (l) 3 : Nat), .int .u64 (dgl (l) 4 : Nat), .int .u64 (dgl (l) 5 : Nat), .int .u64 (dgl (l) 6 : Nat), .int .u64 (dgl (l) 7 : Nat)]))])
    (fun bs W => ∀ c, bs.headD false = c → D1St l p8 p9 (bif c then x + x + b else x) y w W) (fun bs => rfl) mixedOk (by kernel_rfl) (by kernel_rfl) (by kernel_rfl) (fun c hc => by subst hc; exact h1.below (Below.refl _ _).drew) (fun bs W W' h hb c hc => (h c hc).below hb) ?_ ?_
  · refine kSt rfl (fun φ hφ => gStep_run rfl ?_) ?_
    · intro ρ W hC hc hf hL
      have e2 : ρ (.tmp 2) = .pointer (some ⟨p8, 0, none⟩) := hL 2 (by decide +kernel)
      have hφw : φ 9 = false := hφ 9 (by simp) (by kernel_rfl)
      have hl := (hC false (by simp [hφw])).l8.1
      simp [go_sem, hc, hf, e2, hl]
      exact ⟨Below.refl _ _, rfl⟩
    refine kSt rfl (fun φ hφ => gStep_run rfl ?_) ?_
    · intro ρ W hC hc hf hL
      have e2 : ρ (.tmp 2) = .pointer (some ⟨p8, 0, none⟩) := hL 2 (by decide +kernel)
      have hφw : φ 9 = false := hφ 9 (by simp) (by kernel_rfl)
      have hl := (hC false (by simp [hφw])).l8.1
      simp [go_sem, hc, hf, e2, hl]
      exact ⟨Below.refl _ _, rfl⟩
    refine kSt rfl (fun φ hφ => gStep_run rfl (gRun_move 0 9 (.inl rfl) rfl (by decide +kernel) (fun v w h => h))) ?_
    refine kSt rfl (fun φ hφ => gStep_run rfl ?_) ?_
    · intro ρ W hC hc hf hL
      have e9 : ρ (.tmp 9) = .int .i64 (b : Nat) := hL 9 (by decide +kernel)
      simp [go_sem, hc, hf, e9, hcv]
      exact ⟨Below.refl _ _, rfl⟩
    refine kSt rfl (fun φ hφ => gStep_run rfl ?_) ?_
    · intro ρ W hC hc hf hL
      have hφ0 : φ 9 = false := hφ 9 (by simp) (by kernel_rfl)
      have e10 : ρ (.tmp 10) = .int .u64 (b : Nat) := hL 10 (by decide +kernel)
      simp [go_sem, hc, hf, e10]
      refine ⟨below_allocs _ _, ?_⟩
      show (bif φ 9 then SlotIs.any else SlotIs.rd [b]).R _ _
      rw [hφ0]
      exact Rd.lit (mk := mk64) W 22 [.int .u64 (b : Nat)] [b] rfl 1 (Nat.le_refl 1) (by decide)
    refine kSt rfl (fun φ hφ => gStep_run rfl ?_) ?_
    · intro ρ W hC hc hf hL
      have hφ0 : φ 9 = false := hφ 9 (by simp) (by kernel_rfl)
      have b11 : (bif φ 9 then SlotIs.any  else SlotIs.rd [b]).R (ρ (.tmp 11)) W := hL 11 (by decide +kernel)
      rw [hφ0] at b11
      simp [go_sem, hc, hf]
      refine (wideOf_any [b] b _ _ b11 HOB.out).mono ?_
      rintro e w' ⟨rfl, hb⟩
      exact ⟨_, rfl, by first | exact hb | (subst hb; exact Below.refl _ _), rfl⟩
    refine kSt rfl (fun φ hφ => gStep_run rfl ?_) ?_
    · intro ρ W hC hc hf hL
      have hφ0 : φ 9 = false := hφ 9 (by simp) (by kernel_rfl)
      have e7 : ρ (.tmp 7) = .agg #[.int .u64 (dgl (x) 0 : Nat), .int .u64 (dgl (x) 1 : Nat), .int .u64 (dgl (x) 2 : Nat), .int .u64 (dgl (x) 3 : Nat), .int .u64 (dgl (x) 4 : Nat), .int .u64 (dgl (x) 5 : Nat), .int .u64 (dgl (x) 6 : Nat), .int .u64 (dgl (x) 7 : Nat)] := hL 7 (by decide +kernel)
      have e8 : ρ (.tmp 8) = .agg #[.int .u64 (dgl (x) 0 : Nat), .int .u64 (dgl (x) 1 : Nat), .int .u64 (dgl (x) 2 : Nat), .int .u64 (dgl (x) 3 : Nat), .int .u64 (dgl (x) 4 : Nat), .int .u64 (dgl (x) 5 : Nat), .int .u64 (dgl (x) 6 : Nat), .int .u64 (dgl (x) 7 : Nat)] := hL 8 (by decide +kernel)
      have e12 : ρ (.tmp 12) = .agg #[.int .u64 (dgl (b) 0 : Nat), .int .u64 (dgl (b) 1 : Nat), .int .u64 (dgl (b) 2 : Nat), .int .u64 (dgl (b) 3 : Nat), .int .u64 (dgl (b) 4 : Nat), .int .u64 (dgl (b) 5 : Nat), .int .u64 (dgl (b) 6 : Nat), .int .u64 (dgl (b) 7 : Nat)] := hL 12 (by decide +kernel)
      simp [go_sem, hc, hf, e7, e8, e12]
      refine ⟨below_allocs _ _, ?_⟩
      show (bif φ 9 then SlotIs.any else SlotIs.wides w.heap.size [x, x, b]).R _ _
      rw [hφ0]
      exact ⟨_, rfl, (hC _ rfl).ll.2, by simp, fun i j hi hj => wides3_new W x x b _ i j hi hj⟩
    refine kSt rfl (fun φ hφ => gStep_run rfl ?_) ?_
    · intro ρ W hC hc hf hL
      have hφ0 : φ 9 = false := hφ 9 (by simp) (by kernel_rfl)
      have b13 : (bif φ 9 then SlotIs.any  else SlotIs.wides w.heap.size [x, x, b]).R (ρ (.tmp 13)) W := hL 13 (by decide +kernel)
      rw [hφ0] at b13
      simp [go_sem, hc, hf]
      refine (HSU.out _ _ (wides_rd (by simp) b13)).mono ?_
      rintro e w' ⟨rfl, hb⟩
      exact ⟨_, rfl, by first | exact hb | (subst hb; exact Below.refl _ _), rfl⟩
    refine kSt rfl (fun φ hφ => gStep_run rfl ?_) ?_
    · intro ρ W hC hc hf hL
      have e5 : ρ (.tmp 5) = .pointer (some ⟨w.heap.size, 0, none⟩) := hL 5 (by decide +kernel)
      have hl := (hC _ rfl).ll.1
      simp [go_sem, hc, hf, e5, hl]
      exact ⟨Below.refl _ _, rfl⟩
    refine kStS rfl ⟨rfl, rfl, ?_⟩ ?_
    · intro φ ρ W hφ hC hc hL
      have e2 : ρ (.tmp 2) = .pointer (some ⟨p8, 0, none⟩) := hL 2 (by decide +kernel)
      have e14 : ρ (.tmp 14) = .agg #[.int .u64 (dgl (x + x + b) 0 : Nat), .int .u64 (dgl (x + x + b) 1 : Nat), .int .u64 (dgl (x + x + b) 2 : Nat), .int .u64 (dgl (x + x + b) 3 : Nat), .int .u64 (dgl (x + x + b) 4 : Nat), .int .u64 (dgl (x + x + b) 5 : Nat), .int .u64 (dgl (x + x + b) 6 : Nat), .int .u64 (dgl (x + x + b) 7 : Nat)] := hL 14 (by decide +kernel)
      have g : D1St l p8 p9 x y w W := hC false (by simp [hφ])
      have hz := g.l8.1
      have hzl := g.l8.2
      have hzf := g.f8
      have hne := HNE.out
      have hw8 := HX8.out
      refine gUpon_of ((((((((W.setCell ⟨p8, 0, none⟩ (.int .u64 (dgl (x + x + b) 0 : Nat))).setCell ⟨p8, 1, none⟩ (.int .u64 (dgl (x + x + b) 1 : Nat))).setCell ⟨p8, 2, none⟩ (.int .u64 (dgl (x + x + b) 2 : Nat))).setCell ⟨p8, 3, none⟩ (.int .u64 (dgl (x + x + b) 3 : Nat))).setCell ⟨p8, 4, none⟩ (.int .u64 (dgl (x + x + b) 4 : Nat))).setCell ⟨p8, 5, none⟩ (.int .u64 (dgl (x + x + b) 5 : Nat))).setCell ⟨p8, 6, none⟩ (.int .u64 (dgl (x + x + b) 6 : Nat))).setCell ⟨p8, 7, none⟩ (.int .u64 (dgl (x + x + b) 7 : Nat))) ?_ (fun _ => ?_)
      · simp [go_sem, hc, e2, e14, hz, hzl, hzf, gUpon]
      refine ⟨fun c hc => ?_, fun t => ?_⟩
      · have hc1 : c = true := by rw [← hc]; simp
        subst hc1
        exact g.set8 _ (by omega) hne
      refine (tbl_imp rfl (fun _ => val_imp) (tbl_imp rfl (fun _ => val_imp) (tbl_imp rfl (fun _ => val_imp) (tbl_imp rfl (fun _ => val_imp) (tbl_imp rfl (fun _ h => ?_) (tbl_imp rfl (fun _ => val_imp) (tbl_imp rfl (fun _ h => ?_) (tbl_imp rfl (fun _ => val_imp) (tbl_imp rfl (fun _ => val_imp) tbl_nil_imp)))))))))
      · show (bif (φ 9 || true) then SlotIs.any else SlotIs.rd [b]).R _ _
        rw [Bool.or_true]
        trivial
      · show (bif (φ 9 || true) then SlotIs.any else SlotIs.wides w.heap.size [x, x, b]).R _ _
        rw [Bool.or_true]
        trivial
    exact kSt0
  · intro W hC
    refine gFi 7 rfl ?_
    rintro _ rfl
    refine gFi 8 rfl ?_
    rintro _ rfl
    refine gFi 9 rfl ?_
    rintro _ rfl
    refine gFi 10 rfl ?_
    rintro _ rfl
    refine gFi 11 rfl ?_
    rintro u11 b11
    refine gFi 12 rfl ?_
    rintro _ rfl
    refine gFi 13 rfl ?_
    rintro u13 b13
    refine gFi 14 rfl ?_
    rintro _ rfl
    refine gFi 15 rfl ?_
    rintro _ rfl
    refine gFiN rfl ?_
    refine gFi0 ?_
    simp only [List.drop_succ_cons, List.drop_zero, Act.put, List.setIfInBounds_toArray, List.set_cons_succ, List.set_cons_zero]
    have HS := hide (hC true rfl)
    have r9 := HS.out.l9.1
    have r9l := HS.out.l9.2
    have r9f := HS.out.f9
    have hne : p8 ≠ p9 := HNE.out
    clear hC h1 b11 b13
    go_wp2
    go_ret
    exact ⟨rfl, lies_ne HS.out.l8 hne, fun i => by simpa [go_sem] using HS.out.f8 i, set8_same _ p9 (dgl l) (dgl y) HS.out.l9, fun i => by simpa [go_sem] using HS.out.f9 i, HS.out.on.setq8 _⟩
    

end Go.Proofs.YtbngaajhdaciaaaDoor

/- Contracts: the document's quotient and remainder; radix2.May, Divide. -/
set_option linter.unusedVariables false
set_option linter.unusedSimpArgs false
set_option maxRecDepth 8000
namespace Go.Proofs.YtbngaajhdaciaaaDoor
open Go.RowKit Plain

theorem rdiv_start (a b : Nat) (w : World) (e1 e2 e3 e4 : TypeId) :
    TwSt a b w ((((w.alloc (.cells #[.int .u64 (dgl (a) 0 : Nat), .int .u64 (dgl (a) 1 : Nat), .int .u64 (dgl (a) 2 : Nat), .int .u64 (dgl (a) 3 : Nat), .int .u64 (dgl (a) 4 : Nat), .int .u64 (dgl (a) 5 : Nat), .int .u64 (dgl (a) 6 : Nat), .int .u64 (dgl (a) 7 : Nat)] e1)).alloc (.cells #[.int .u64 (dgl (b) 0 : Nat), .int .u64 (dgl (b) 1 : Nat), .int .u64 (dgl (b) 2 : Nat), .int .u64 (dgl (b) 3 : Nat), .int .u64 (dgl (b) 4 : Nat), .int .u64 (dgl (b) 5 : Nat), .int .u64 (dgl (b) 6 : Nat), .int .u64 (dgl (b) 7 : Nat)] e2)).alloc (.cells #[.int .u64 0, .int .u64 0, .int .u64 0, .int .u64 0, .int .u64 0, .int .u64 0, .int .u64 0, .int .u64 0] e3)).alloc (.cells #[.int .u64 0, .int .u64 0, .int .u64 0, .int .u64 0, .int .u64 0, .int .u64 0, .int .u64 0, .int .u64 0] e4)) ∧
    R2St (w.heap.size + 2) (w.heap.size + 3) 0 0 w ((((w.alloc (.cells #[.int .u64 (dgl (a) 0 : Nat), .int .u64 (dgl (a) 1 : Nat), .int .u64 (dgl (a) 2 : Nat), .int .u64 (dgl (a) 3 : Nat), .int .u64 (dgl (a) 4 : Nat), .int .u64 (dgl (a) 5 : Nat), .int .u64 (dgl (a) 6 : Nat), .int .u64 (dgl (a) 7 : Nat)] e1)).alloc (.cells #[.int .u64 (dgl (b) 0 : Nat), .int .u64 (dgl (b) 1 : Nat), .int .u64 (dgl (b) 2 : Nat), .int .u64 (dgl (b) 3 : Nat), .int .u64 (dgl (b) 4 : Nat), .int .u64 (dgl (b) 5 : Nat), .int .u64 (dgl (b) 6 : Nat), .int .u64 (dgl (b) 7 : Nat)] e2)).alloc (.cells #[.int .u64 0, .int .u64 0, .int .u64 0, .int .u64 0, .int .u64 0, .int .u64 0, .int .u64 0, .int .u64 0] e3)).alloc (.cells #[.int .u64 0, .int .u64 0, .int .u64 0, .int .u64 0, .int .u64 0, .int .u64 0, .int .u64 0, .int .u64 0] e4)) := by
  have h := twSt_start a b w e1 e2
  have h2 := r2_new w _ h.bel e3 e4
  rw [World.size_alloc, World.size_alloc] at h2
  exact ⟨(h.below (below_allocs _ _)).below (below_allocs _ _), h2⟩

set_option maxHeartbeats 4000000 in
theorem rdivide_walk (n d q x r : Nat) (b1 b2 : Bool)
    (HBN : Hid (∀ w, Calls Tryd.prog 16 #[.agg #[.int .u64 (dgl (n) 0 : Nat), .int .u64 (dgl (n) 1 : Nat), .int .u64 (dgl (n) 2 : Nat), .int .u64 (dgl (n) 3 : Nat), .int .u64 (dgl (n) 4 : Nat), .int .u64 (dgl (n) 5 : Nat), .int .u64 (dgl (n) 6 : Nat), .int .u64 (dgl (n) 7 : Nat)]] w fun e w' => ∃ v, e = .returned v ∧ BigV w' v n 40 ∧ Below w.heap.size w w'))
    (HBD : Hid (∀ w, Calls Tryd.prog 16 #[.agg #[.int .u64 (dgl (d) 0 : Nat), .int .u64 (dgl (d) 1 : Nat), .int .u64 (dgl (d) 2 : Nat), .int .u64 (dgl (d) 3 : Nat), .int .u64 (dgl (d) 4 : Nat), .int .u64 (dgl (d) 5 : Nat), .int .u64 (dgl (d) 6 : Nat), .int .u64 (dgl (d) 7 : Nat)]] w fun e w' => ∃ v, e = .returned v ∧ BigV w' v d 40 ∧ Below w.heap.size w w'))
    (HQU : Hid (∀ u v w, BigV w u (n) 40 → BigV w v (d) 40 → Calls Tryd.prog 69 #[u, v] w fun e w' => ∃ v', e = .returned v' ∧ BigV w' v' (q) 200 ∧ Below w.heap.size w w'))
    (HWQ : Hid (∀ u w, BigV w u (q) 200 → Calls Tryd.prog 18 #[u] w fun e w' => e = .returned (.tuple #[.agg #[.int .u64 (dgl (q) 0 : Nat), .int .u64 (dgl (q) 1 : Nat), .int .u64 (dgl (q) 2 : Nat), .int .u64 (dgl (q) 3 : Nat), .int .u64 (dgl (q) 4 : Nat), .int .u64 (dgl (q) 5 : Nat), .int .u64 (dgl (q) 6 : Nat), .int .u64 (dgl (q) 7 : Nat)], .bool b1]) ∧ Below w.heap.size w w'))
    (HMU : Hid (∀ u v w, BigV w u (q) 200 → BigV w v (d) 40 → Calls Tryd.prog 22 #[u, v] w fun e w' => ∃ v', e = .returned v' ∧ BigV w' v' (x) 240 ∧ Below w.heap.size w w'))
    (HSB : Hid (∀ u v w, BigV w u (n) 40 → BigV w v (x) 240 → Calls Tryd.prog 70 #[u, v] w fun e w' => ∃ v', e = .returned v' ∧ BigV w' v' (r) 40 ∧ Below w.heap.size w w'))
    (HWR : Hid (∀ u w, BigV w u (r) 40 → Calls Tryd.prog 18 #[u] w fun e w' => e = .returned (.tuple #[.agg #[.int .u64 (dgl (r) 0 : Nat), .int .u64 (dgl (r) 1 : Nat), .int .u64 (dgl (r) 2 : Nat), .int .u64 (dgl (r) 3 : Nat), .int .u64 (dgl (r) 4 : Nat), .int .u64 (dgl (r) 5 : Nat), .int .u64 (dgl (r) 6 : Nat), .int .u64 (dgl (r) 7 : Nat)], .bool b2]) ∧ Below w.heap.size w w')) (w : World) :
    Calls Tryd.prog 35 #[.agg #[.int .u64 (dgl (n) 0 : Nat), .int .u64 (dgl (n) 1 : Nat), .int .u64 (dgl (n) 2 : Nat), .int .u64 (dgl (n) 3 : Nat), .int .u64 (dgl (n) 4 : Nat), .int .u64 (dgl (n) 5 : Nat), .int .u64 (dgl (n) 6 : Nat), .int .u64 (dgl (n) 7 : Nat)], .agg #[.int .u64 (dgl (d) 0 : Nat), .int .u64 (dgl (d) 1 : Nat), .int .u64 (dgl (d) 2 : Nat), .int .u64 (dgl (d) 3 : Nat), .int .u64 (dgl (d) 4 : Nat), .int .u64 (dgl (d) 5 : Nat), .int .u64 (dgl (d) 6 : Nat), .int .u64 (dgl (d) 7 : Nat)]] w fun e w' => e = .returned (.tuple #[.agg #[.int .u64 (dgl (q) 0 : Nat), .int .u64 (dgl (q) 1 : Nat), .int .u64 (dgl (q) 2 : Nat), .int .u64 (dgl (q) 3 : Nat), .int .u64 (dgl (q) 4 : Nat), .int .u64 (dgl (q) 5 : Nat), .int .u64 (dgl (q) 6 : Nat), .int .u64 (dgl (q) 7 : Nat)], .agg #[.int .u64 (dgl (r) 0 : Nat), .int .u64 (dgl (r) 1 : Nat), .int .u64 (dgl (r) 2 : Nat), .int .u64 (dgl (r) 3 : Nat), .int .u64 (dgl (r) 4 : Nat), .int .u64 (dgl (r) 5 : Nat), .int .u64 (dgl (r) 6 : Nat), .int .u64 (dgl (r) 7 : Nat)]]) ∧ Below w.heap.size w w' := by
  have HS := hide (rdiv_start n d w 24 24 24 24)
  go_enter Tryd.func35, Tryd.ntmps35
  go_upto_region 1 with fail
  refine wp_gen (fun W => TwSt n d w W ∧ R2St (w.heap.size + 2) (w.heap.size + 3) 0 0 w W) HS.out ?_
  clear HS
  rintro W1 h1
  refine wp_region_grow 6 [(13, .val (.agg #[.int .u64 (dgl (n) 0 : Nat), .int .u64 (dgl (n) 1 : Nat), .int .u64 (dgl (n) 2 : Nat), .int .u64 (dgl (n) 3 : Nat), .int .u64 (dgl (n) 4 : Nat), .int .u64 (dgl (n) 5 : Nat), .int .u64 (dgl (n) 6 : Nat), .int .u64 (dgl (n) 7 : Nat)])), (14, .big n 40), (15, .val (.agg #[.int .u64 (dgl (d) 0 : Nat), .int .u64 (dgl (d) 1 : Nat), .int .u64 (dgl (d) 2 : Nat), .int .u64 (dgl (d) 3 : Nat), .int .u64 (dgl (d) 4 : Nat), .int .u64 (dgl (d) 5 : Nat), .int .u64 (dgl (d) 6 : Nat), .int .u64 (dgl (d) 7 : Nat)])), (16, .big d 40), (6, .big n 40), (7, .big d 40)]
    (fun W => TwSt n d w W ∧ R2St (w.heap.size + 2) (w.heap.size + 3) 0 0 w W) mixedOk (by kernel_rfl) (by kernel_rfl) (⟨h1.1.below (Below.refl _ _).drew, h1.2.below (Below.refl _ _).drew⟩) (fun W W' h hb => ⟨h.1.below hb, h.2.below hb⟩) ?_ ?_
  · refine gSt (gStep_run rfl ?_) ?_
    · intro ρ W hC hc hf hL
      have e2 : ρ (.tmp 2) = .pointer (some ⟨w.heap.size, 0, none⟩) := hL 2 (by decide +kernel)
      have hl := hC.1.la.1
      simp [go_sem, hc, hf, e2, hl]
      exact ⟨Below.refl _ _, rfl⟩
    refine gSt (gStep_run rfl ?_) ?_
    · intro ρ W hC hc hf hL
      have e13 : ρ (.tmp 13) = .agg #[.int .u64 (dgl (n) 0 : Nat), .int .u64 (dgl (n) 1 : Nat), .int .u64 (dgl (n) 2 : Nat), .int .u64 (dgl (n) 3 : Nat), .int .u64 (dgl (n) 4 : Nat), .int .u64 (dgl (n) 5 : Nat), .int .u64 (dgl (n) 6 : Nat), .int .u64 (dgl (n) 7 : Nat)] := hL 13 (by decide +kernel)
      simp [go_sem, hc, hf, e13]
      refine (HBN.out W).mono ?_
      rintro e w' ⟨v, rfl, hv, hb⟩
      exact ⟨_, rfl, hb, hv⟩
    refine gSt (gStep_run rfl ?_) ?_
    · intro ρ W hC hc hf hL
      have e3 : ρ (.tmp 3) = .pointer (some ⟨w.heap.size + 1, 0, none⟩) := hL 3 (by decide +kernel)
      have hl := hC.1.lb.1
      simp [go_sem, hc, hf, e3, hl]
      exact ⟨Below.refl _ _, rfl⟩
    refine gSt (gStep_run rfl ?_) ?_
    · intro ρ W hC hc hf hL
      have e15 : ρ (.tmp 15) = .agg #[.int .u64 (dgl (d) 0 : Nat), .int .u64 (dgl (d) 1 : Nat), .int .u64 (dgl (d) 2 : Nat), .int .u64 (dgl (d) 3 : Nat), .int .u64 (dgl (d) 4 : Nat), .int .u64 (dgl (d) 5 : Nat), .int .u64 (dgl (d) 6 : Nat), .int .u64 (dgl (d) 7 : Nat)] := hL 15 (by decide +kernel)
      simp [go_sem, hc, hf, e15]
      refine (HBD.out W).mono ?_
      rintro e w' ⟨v, rfl, hv, hb⟩
      exact ⟨_, rfl, hb, hv⟩
    refine gSt (gStep_run rfl (gRun_move 14 6 (.inr rfl) rfl (by decide +kernel) (fun v w h => h))) ?_
    refine gSt (gStep_run rfl (gRun_move 16 7 (.inr rfl) rfl (by decide +kernel) (fun v w h => h))) ?_
    exact gSt0
  · intro W hC
    refine gFi 13 rfl ?_
    rintro _ rfl
    refine gFi 14 rfl ?_
    rintro u14 b14
    refine gFi 15 rfl ?_
    rintro _ rfl
    refine gFi 16 rfl ?_
    rintro u16 b16
    refine gFi 6 rfl ?_
    rintro u6 b6
    refine gFi 7 rfl ?_
    rintro u7 b7
    refine gFi0 ?_
    simp only [List.drop_succ_cons, List.drop_zero, Act.put, List.setIfInBounds_toArray, List.set_cons_succ, List.set_cons_zero]
    have HS := hide hC
    clear hC h1
    go_wp2_with fail
    refine (HQU.out _ _ _ b6 b7).mono ?_
    rintro e w2 ⟨vq, rfl, hvq, hb2⟩
    replace b6 := BigV.below b6 hb2
    replace b7 := BigV.below b7 hb2
    replace HS := hide (show TwSt n d w w2 ∧ R2St (w.heap.size + 2) (w.heap.size + 3) 0 0 w w2 from ⟨HS.out.1.below hb2, HS.out.2.below hb2⟩)
    clear hb2
    go_wp2_with fail
    refine (HWQ.out _ _ hvq).mono ?_
    rintro e w3 ⟨rfl, hb3⟩
    replace b6 := BigV.below b6 hb3
    replace b7 := BigV.below b7 hb3
    replace hvq := BigV.below hvq hb3
    replace HS := hide (show TwSt n d w w3 ∧ R2St (w.heap.size + 2) (w.heap.size + 3) 0 0 w w3 from ⟨HS.out.1.below hb3, HS.out.2.below hb3⟩)
    clear hb3
    go_upto_region 4 with fail
    refine wp_gen (fun W => R2St (w.heap.size + 2) (w.heap.size + 3) 0 0 w W ∧ LiesF W w3.heap.size (dgl q) ∧ Below w3.heap.size w3 W) ⟨HS.out.2.below (below_allocs _ _), liesF_new _ _ _, below_allocs _ _⟩ ?_
    have HP9 := hide HS.out.2.ly.2
    clear HS
    rintro W3 h3
    have hb3 := h3.2.2
    replace b6 := BigV.below b6 hb3
    replace b7 := BigV.below b7 hb3
    replace hvq := BigV.below hvq hb3
    have HS := hide (show R2St (w.heap.size + 2) (w.heap.size + 3) 0 0 w W3 ∧ LiesF W3 w3.heap.size (dgl q) from ⟨h3.1, h3.2.1⟩)
    clear h3 hb3
    generalize w3.heap.size = p9 at *
    go_wp2_with fail
    refine (HMU.out _ _ _ hvq b7).mono ?_
    rintro e w4 ⟨vx, rfl, hvx, hb4⟩
    replace b6 := BigV.below b6 hb4
    replace HS := hide (show R2St (w.heap.size + 2) (w.heap.size + 3) 0 0 w w4 ∧ LiesF w4 p9 (dgl q) from ⟨HS.out.1.below hb4, HS.out.2.below hb4⟩)
    clear hb4 b7 hvq
    go_wp2_with fail
    refine (HSB.out _ _ _ b6 hvx).mono ?_
    rintro e w5 ⟨vr, rfl, hvr, hb5⟩
    replace HS := hide (show R2St (w.heap.size + 2) (w.heap.size + 3) 0 0 w w5 ∧ LiesF w5 p9 (dgl q) from ⟨HS.out.1.below hb5, HS.out.2.below hb5⟩)
    clear hb5 b6 hvx
    go_wp2_with fail
    refine (HWR.out _ _ hvr).mono ?_
    rintro e w6 ⟨rfl, hb6⟩
    replace HS := hide (show R2St (w.heap.size + 2) (w.heap.size + 3) 0 0 w w6 ∧ LiesF w6 p9 (dgl q) from ⟨HS.out.1.below hb6, HS.out.2.below hb6⟩)
    clear hb6 hvr
    go_upto_region 5 with fail
    refine wp_gen (fun W => R2St (w.heap.size + 2) (w.heap.size + 3) 0 0 w W ∧ LiesF W p9 (dgl q) ∧ LiesF W w6.heap.size (dgl r)) ⟨HS.out.1.below (below_allocs _ _), HS.out.2.below (below_allocs _ _), liesF_new _ _ _⟩ ?_
    have HNE := hide (show w.heap.size + 3 < p9 ∧ w.heap.size + 3 < w6.heap.size from ⟨HP9.out, HS.out.1.ly.2⟩)
    clear HS HP9
    generalize w6.heap.size = p11 at *
    rintro W5 h5
    have HS5 := hide h5
    clear h5
    refine wp_region_storeK 4 [2, 3] [34, 35] (fun bs => [(34, .val (.agg #[.int .u64 (dgl (q) 0 : Nat), .int .u64 (dgl (q) 1 : Nat), .int .u64 (dgl (q) 2 : Nat), .int .u64 (dgl (q) 3 : Nat), .int .u64 (dgl (q) 4 : Nat), .int .u64 (dgl (q) 5 : Nat), .int .u64 (dgl (q) 6 : Nat), .int .u64 (dgl (q) 7 : Nat)])), (35, .val (.agg #[.int .u64 (dgl (r) 0 : Nat), .int .u64 (dgl (r) 1 : Nat), .int .u64 (dgl (r) 2 : Nat), .int .u64 (dgl (r) 3 : Nat), .int .u64 (dgl (r) 4 : Nat), .int .u64 (dgl (r) 5 : Nat), .int .u64 (dgl (r) 6 : Nat), .int .u64 (dgl (r) 7 : Nat)]))])
      (fun bs W => (∀ c e, bs.headD false = c → bs.tail.headD false = e → R2St (w.heap.size + 2) (w.heap.size + 3) (bif c then q else 0) (bif e then r else 0) w W) ∧ LiesF W p9 (dgl (q)) ∧ LiesF W p11 (dgl (r))) (fun bs => rfl) mixedOk (by kernel_rfl) (by kernel_rfl) (by kernel_rfl) (⟨fun c e hc he => by subst hc; subst he; exact (HS5.out).1.below (Below.refl _ _).drew, (HS5.out).2.1.below (Below.refl _ _).drew, (HS5.out).2.2.below (Below.refl _ _).drew⟩) (fun bs W W' h hb => ⟨fun c e hc he => (h.1 c e hc he).below hb, h.2.1.below hb, h.2.2.below hb⟩) ?_ ?_
    · refine kSt rfl (fun φ hφ => gStep_run rfl ?_) ?_
      · intro ρ W hC hc hf hL
        have e9 : ρ (.tmp 9) = .pointer (some ⟨p9, 0, none⟩) := hL 9 (by decide +kernel)
        have hl := hC.2.1.1
        simp [go_sem, hc, hf, e9, hl]
        exact ⟨Below.refl _ _, rfl⟩
      refine kSt rfl (fun φ hφ => gStep_run rfl ?_) ?_
      · intro ρ W hC hc hf hL
        have e11 : ρ (.tmp 11) = .pointer (some ⟨p11, 0, none⟩) := hL 11 (by decide +kernel)
        have hl := hC.2.2.1
        simp [go_sem, hc, hf, e11, hl]
        exact ⟨Below.refl _ _, rfl⟩
      refine kStS rfl ⟨rfl, rfl, ?_⟩ ?_
      · intro φ ρ W hφ hC hc hL
        have e4 : ρ (.tmp 4) = .pointer (some ⟨w.heap.size + 2, 0, none⟩) := hL 4 (by decide +kernel)
        have e34 : ρ (.tmp 34) = .agg #[.int .u64 (dgl (q) 0 : Nat), .int .u64 (dgl (q) 1 : Nat), .int .u64 (dgl (q) 2 : Nat), .int .u64 (dgl (q) 3 : Nat), .int .u64 (dgl (q) 4 : Nat), .int .u64 (dgl (q) 5 : Nat), .int .u64 (dgl (q) 6 : Nat), .int .u64 (dgl (q) 7 : Nat)] := hL 34 (by decide +kernel)
        have g : R2St (w.heap.size + 2) (w.heap.size + 3) 0 (bif φ 3 then r else 0) w W := hC.1 false (φ 3) (by simp [hφ]) rfl
        have hz := g.lx.1
        have hzl := g.lx.2
        have hzf := g.fx
        have hne := HNE.out
        refine gUpon_of ((((((((W.setCell ⟨w.heap.size + 2, 0, none⟩ (.int .u64 (dgl (q) 0 : Nat))).setCell ⟨w.heap.size + 2, 1, none⟩ (.int .u64 (dgl (q) 1 : Nat))).setCell ⟨w.heap.size + 2, 2, none⟩ (.int .u64 (dgl (q) 2 : Nat))).setCell ⟨w.heap.size + 2, 3, none⟩ (.int .u64 (dgl (q) 3 : Nat))).setCell ⟨w.heap.size + 2, 4, none⟩ (.int .u64 (dgl (q) 4 : Nat))).setCell ⟨w.heap.size + 2, 5, none⟩ (.int .u64 (dgl (q) 5 : Nat))).setCell ⟨w.heap.size + 2, 6, none⟩ (.int .u64 (dgl (q) 6 : Nat))).setCell ⟨w.heap.size + 2, 7, none⟩ (.int .u64 (dgl (q) 7 : Nat))) ?_ (fun _ => ?_)
        · simp [go_sem, hc, e4, e34, hz, hzl, hzf, gUpon]
        refine ⟨⟨fun c e hc he => ?_, lies_ne hC.2.1 (by omega), lies_ne hC.2.2 (by omega)⟩, fun t => ?_⟩
        · have hc1 : c = true := by rw [← hc]; simp
          have he1 : e = (φ 3) := by rw [← he]; simp
          subst hc1
          subst he1
          exact g.set1 _
        refine (tbl_imp rfl (fun _ => val_imp) (tbl_imp rfl (fun _ => val_imp) tbl_nil_imp))
      refine kStS rfl ⟨rfl, rfl, ?_⟩ ?_
      · intro φ ρ W hφ hC hc hL
        have e5 : ρ (.tmp 5) = .pointer (some ⟨w.heap.size + 3, 0, none⟩) := hL 5 (by decide +kernel)
        have e35 : ρ (.tmp 35) = .agg #[.int .u64 (dgl (r) 0 : Nat), .int .u64 (dgl (r) 1 : Nat), .int .u64 (dgl (r) 2 : Nat), .int .u64 (dgl (r) 3 : Nat), .int .u64 (dgl (r) 4 : Nat), .int .u64 (dgl (r) 5 : Nat), .int .u64 (dgl (r) 6 : Nat), .int .u64 (dgl (r) 7 : Nat)] := hL 35 (by decide +kernel)
        have g : R2St (w.heap.size + 2) (w.heap.size + 3) (bif φ 2 then q else 0) 0 w W := hC.1 (φ 2) false rfl (by simp [hφ])
        have hz := g.ly.1
        have hzl := g.ly.2
        have hzf := g.fy
        have hne := HNE.out
        refine gUpon_of ((((((((W.setCell ⟨w.heap.size + 3, 0, none⟩ (.int .u64 (dgl (r) 0 : Nat))).setCell ⟨w.heap.size + 3, 1, none⟩ (.int .u64 (dgl (r) 1 : Nat))).setCell ⟨w.heap.size + 3, 2, none⟩ (.int .u64 (dgl (r) 2 : Nat))).setCell ⟨w.heap.size + 3, 3, none⟩ (.int .u64 (dgl (r) 3 : Nat))).setCell ⟨w.heap.size + 3, 4, none⟩ (.int .u64 (dgl (r) 4 : Nat))).setCell ⟨w.heap.size + 3, 5, none⟩ (.int .u64 (dgl (r) 5 : Nat))).setCell ⟨w.heap.size + 3, 6, none⟩ (.int .u64 (dgl (r) 6 : Nat))).setCell ⟨w.heap.size + 3, 7, none⟩ (.int .u64 (dgl (r) 7 : Nat))) ?_ (fun _ => ?_)
        · simp [go_sem, hc, e5, e35, hz, hzl, hzf, gUpon]
        refine ⟨⟨fun c e hc he => ?_, lies_ne hC.2.1 (by omega), lies_ne hC.2.2 (by omega)⟩, fun t => ?_⟩
        · have hc1 : c = (φ 2) := by rw [← hc]; simp
          have he1 : e = true := by rw [← he]; simp
          subst hc1
          subst he1
          exact g.set2 _
        refine (tbl_imp rfl (fun _ => val_imp) (tbl_imp rfl (fun _ => val_imp) tbl_nil_imp))
      exact kSt0
    · intro W hC
      refine gFi 34 rfl ?_
      rintro _ rfl
      refine gFi 35 rfl ?_
      rintro _ rfl
      refine gFiN rfl ?_
      refine gFiN rfl ?_
      refine gFi0 ?_
      simp only [List.drop_succ_cons, List.drop_zero, Act.put, List.setIfInBounds_toArray, List.set_cons_succ, List.set_cons_zero]
      have HS := hide (hC.1 true true rfl rfl)
      clear hC
      have hr1 := HS.out.lx.1
      have hrl1 := HS.out.lx.2
      have hrf1 := HS.out.fx
      have hr2 := HS.out.ly.1
      have hrl2 := HS.out.ly.2
      have hrf2 := HS.out.fy
      have HBE := hide HS.out.bel
      have HO1 := hide HS.out.o1
      have HO2 := hide HS.out.o2
      clear HS
      go_wp2
      exact bodyPost_ret (v := .tuple #[.agg #[.int .u64 (dgl (q) 0 : Nat), .int .u64 (dgl (q) 1 : Nat), .int .u64 (dgl (q) 2 : Nat), .int .u64 (dgl (q) 3 : Nat), .int .u64 (dgl (q) 4 : Nat), .int .u64 (dgl (q) 5 : Nat), .int .u64 (dgl (q) 6 : Nat), .int .u64 (dgl (q) 7 : Nat)], .agg #[.int .u64 (dgl (r) 0 : Nat), .int .u64 (dgl (r) 1 : Nat), .int .u64 (dgl (r) 2 : Nat), .int .u64 (dgl (r) 3 : Nat), .int .u64 (dgl (r) 4 : Nat), .int .u64 (dgl (r) 5 : Nat), .int .u64 (dgl (r) 6 : Nat), .int .u64 (dgl (r) 7 : Nat)]]) (by simp [results, Tryd.results35, go_sem, hr1, hrl1, hr2, hrl2]) rfl ⟨rfl, HBE.out⟩
      
    

theorem refDivide_any (n d : Nat) (hn : n < QQ) (hd : d < QQ) (h0 : 0 < d) (hq : n / d < 2 ^ 131) (w : World) :
    Calls Tryd.prog 35 #[.agg #[.int .u64 (dgl (n) 0 : Nat), .int .u64 (dgl (n) 1 : Nat), .int .u64 (dgl (n) 2 : Nat), .int .u64 (dgl (n) 3 : Nat), .int .u64 (dgl (n) 4 : Nat), .int .u64 (dgl (n) 5 : Nat), .int .u64 (dgl (n) 6 : Nat), .int .u64 (dgl (n) 7 : Nat)], .agg #[.int .u64 (dgl (d) 0 : Nat), .int .u64 (dgl (d) 1 : Nat), .int .u64 (dgl (d) 2 : Nat), .int .u64 (dgl (d) 3 : Nat), .int .u64 (dgl (d) 4 : Nat), .int .u64 (dgl (d) 5 : Nat), .int .u64 (dgl (d) 6 : Nat), .int .u64 (dgl (d) 7 : Nat)]] w fun e w' => e = .returned (.tuple #[.agg #[.int .u64 (dgl (n / d) 0 : Nat), .int .u64 (dgl (n / d) 1 : Nat), .int .u64 (dgl (n / d) 2 : Nat), .int .u64 (dgl (n / d) 3 : Nat), .int .u64 (dgl (n / d) 4 : Nat), .int .u64 (dgl (n / d) 5 : Nat), .int .u64 (dgl (n / d) 6 : Nat), .int .u64 (dgl (n / d) 7 : Nat)], .agg #[.int .u64 (dgl (n % d) 0 : Nat), .int .u64 (dgl (n % d) 1 : Nat), .int .u64 (dgl (n % d) 2 : Nat), .int .u64 (dgl (n % d) 3 : Nat), .int .u64 (dgl (n % d) 4 : Nat), .int .u64 (dgl (n % d) 5 : Nat), .int .u64 (dgl (n % d) 6 : Nat), .int .u64 (dgl (n % d) 7 : Nat)]]) ∧ Below w.heap.size w w' :=
  rdivide_walk n d (n / d) (n / d * d) (n % d) (decide (QQ ≤ n / d)) (decide (QQ ≤ n % d)) (fun w => refBig_any n hn w) (fun w => refBig_any d hd w)
    (fun u v w hu hv => refQuotient_any n d 40 40 u v (by decide) (by decide) h0 hq w hu hv) (fun u w hu => refWide_any (n / d) 200 u w hu)
    (fun u v w hu hv => refMul_any (n / d) d 200 40 u v w hu hv (by decide) (by decide))
    (fun u v w hu hv => (refSub_any n (n / d * d) 40 240 u v w hu hv (by decide) (Nat.div_mul_le_self n d)).mono fun e w' ⟨v', e1, e2, e3⟩ => ⟨v', e1, by rw [← leftN_zero]; unfold leftN; rw [hiN_zero]; exact e2, e3⟩)
    (fun u w hu => refWide_any (n % d) 40 u w hu) w

set_option maxHeartbeats 2000000 in
theorem pmay_Z (n d L s : Nat) (q : Int)
    (HZ : ∀ w, (Op.equalIn 10000 24 (.agg #[.int .u64 (dgl (d) 0 : Nat), .int .u64 (dgl (d) 1 : Nat), .int .u64 (dgl (d) 2 : Nat), .int .u64 (dgl (d) 3 : Nat), .int .u64 (dgl (d) 4 : Nat), .int .u64 (dgl (d) 5 : Nat), .int .u64 (dgl (d) 6 : Nat), .int .u64 (dgl (d) 7 : Nat)]) (.agg #[.int .u64 0, .int .u64 0, .int .u64 0, .int .u64 0, .int .u64 0, .int .u64 0, .int .u64 0, .int .u64 0])).run Tryd.prog w = .ok true w) (w : World) :
    Calls Tryd.prog 21 #[.agg #[.int .u64 (dgl (n) 0 : Nat), .int .u64 (dgl (n) 1 : Nat), .int .u64 (dgl (n) 2 : Nat), .int .u64 (dgl (n) 3 : Nat), .int .u64 (dgl (n) 4 : Nat), .int .u64 (dgl (n) 5 : Nat), .int .u64 (dgl (n) 6 : Nat), .int .u64 (dgl (n) 7 : Nat)], .agg #[.int .u64 (dgl (d) 0 : Nat), .int .u64 (dgl (d) 1 : Nat), .int .u64 (dgl (d) 2 : Nat), .int .u64 (dgl (d) 3 : Nat), .int .u64 (dgl (d) 4 : Nat), .int .u64 (dgl (d) 5 : Nat), .int .u64 (dgl (d) 6 : Nat), .int .u64 (dgl (d) 7 : Nat)]] w fun e w' => e = .returned (.int .i64 5) ∧ Below w.heap.size w w' := by
  have HS := hide (twSt_start n d w 24 24)
  go_enter Tryd.func21, Tryd.ntmps21
  have hlb := HS.out.lb.1
  have HB := hide HS.out.bel
  clear HS
  go_wp2
  go_ret
  exact ⟨rfl, HB.out⟩

set_option maxHeartbeats 2000000 in
theorem pmay_B (n d L s : Nat) (q : Int)
    (HZ : ∀ w, (Op.equalIn 10000 24 (.agg #[.int .u64 (dgl (d) 0 : Nat), .int .u64 (dgl (d) 1 : Nat), .int .u64 (dgl (d) 2 : Nat), .int .u64 (dgl (d) 3 : Nat), .int .u64 (dgl (d) 4 : Nat), .int .u64 (dgl (d) 5 : Nat), .int .u64 (dgl (d) 6 : Nat), .int .u64 (dgl (d) 7 : Nat)]) (.agg #[.int .u64 0, .int .u64 0, .int .u64 0, .int .u64 0, .int .u64 0, .int .u64 0, .int .u64 0, .int .u64 0])).run Tryd.prog w = .ok false w)
    (HLN : Hid (∀ w, Calls Tryd.prog 44 #[.agg #[.int .u64 (dgl (d) 0 : Nat), .int .u64 (dgl (d) 1 : Nat), .int .u64 (dgl (d) 2 : Nat), .int .u64 (dgl (d) 3 : Nat), .int .u64 (dgl (d) 4 : Nat), .int .u64 (dgl (d) 5 : Nat), .int .u64 (dgl (d) 6 : Nat), .int .u64 (dgl (d) 7 : Nat)]] w fun e w' => e = .returned (.int .i64 ((L : Nat) : Int)) ∧ Below w.heap.size w w'))
    (hL : 120 < L) (w : World) :
    Calls Tryd.prog 21 #[.agg #[.int .u64 (dgl (n) 0 : Nat), .int .u64 (dgl (n) 1 : Nat), .int .u64 (dgl (n) 2 : Nat), .int .u64 (dgl (n) 3 : Nat), .int .u64 (dgl (n) 4 : Nat), .int .u64 (dgl (n) 5 : Nat), .int .u64 (dgl (n) 6 : Nat), .int .u64 (dgl (n) 7 : Nat)], .agg #[.int .u64 (dgl (d) 0 : Nat), .int .u64 (dgl (d) 1 : Nat), .int .u64 (dgl (d) 2 : Nat), .int .u64 (dgl (d) 3 : Nat), .int .u64 (dgl (d) 4 : Nat), .int .u64 (dgl (d) 5 : Nat), .int .u64 (dgl (d) 6 : Nat), .int .u64 (dgl (d) 7 : Nat)]] w fun e w' => e = .returned (.int .i64 4) ∧ Below w.heap.size w w' := by
  have HS := hide (twSt_start n d w 24 24)
  have hl1 : (120 : Int) < (L : Int) := by omega
  clear hL
  go_enter Tryd.func21, Tryd.ntmps21
  have hlb := HS.out.lb.1
  go_wp2_with fail
  refine (HLN.out _).mono ?_
  rintro e w1 ⟨rfl, hb1⟩
  replace HS := hide (HS.out.below hb1)
  clear hb1 hlb
  have HB := hide HS.out.bel
  clear HS
  go_wp2
  go_ret
  exact ⟨rfl, HB.out⟩

set_option maxHeartbeats 2000000 in
theorem pmay_G (n d L s : Nat) (q : Int)
    (HZ : ∀ w, (Op.equalIn 10000 24 (.agg #[.int .u64 (dgl (d) 0 : Nat), .int .u64 (dgl (d) 1 : Nat), .int .u64 (dgl (d) 2 : Nat), .int .u64 (dgl (d) 3 : Nat), .int .u64 (dgl (d) 4 : Nat), .int .u64 (dgl (d) 5 : Nat), .int .u64 (dgl (d) 6 : Nat), .int .u64 (dgl (d) 7 : Nat)]) (.agg #[.int .u64 0, .int .u64 0, .int .u64 0, .int .u64 0, .int .u64 0, .int .u64 0, .int .u64 0, .int .u64 0])).run Tryd.prog w = .ok false w)
    (HLN : Hid (∀ w, Calls Tryd.prog 44 #[.agg #[.int .u64 (dgl (d) 0 : Nat), .int .u64 (dgl (d) 1 : Nat), .int .u64 (dgl (d) 2 : Nat), .int .u64 (dgl (d) 3 : Nat), .int .u64 (dgl (d) 4 : Nat), .int .u64 (dgl (d) 5 : Nat), .int .u64 (dgl (d) 6 : Nat), .int .u64 (dgl (d) 7 : Nat)]] w fun e w' => e = .returned (.int .i64 ((L : Nat) : Int)) ∧ Below w.heap.size w w'))
    (hL : L ≤ 120)
    (HSH : Hid (∀ w, Calls Tryd.prog 29 #[.agg #[.int .u64 (dgl (d) 0 : Nat), .int .u64 (dgl (d) 1 : Nat), .int .u64 (dgl (d) 2 : Nat), .int .u64 (dgl (d) 3 : Nat), .int .u64 (dgl (d) 4 : Nat), .int .u64 (dgl (d) 5 : Nat), .int .u64 (dgl (d) 6 : Nat), .int .u64 (dgl (d) 7 : Nat)], .int .i64 128] w fun e w' => e = .returned (.agg #[.int .u64 (dgl (s) 0 : Nat), .int .u64 (dgl (s) 1 : Nat), .int .u64 (dgl (s) 2 : Nat), .int .u64 (dgl (s) 3 : Nat), .int .u64 (dgl (s) 4 : Nat), .int .u64 (dgl (s) 5 : Nat), .int .u64 (dgl (s) 6 : Nat), .int .u64 (dgl (s) 7 : Nat)]) ∧ Below w.heap.size w w'))
    (HCM : Hid (∀ w, Calls Tryd.prog 48 #[.agg #[.int .u64 (dgl (n) 0 : Nat), .int .u64 (dgl (n) 1 : Nat), .int .u64 (dgl (n) 2 : Nat), .int .u64 (dgl (n) 3 : Nat), .int .u64 (dgl (n) 4 : Nat), .int .u64 (dgl (n) 5 : Nat), .int .u64 (dgl (n) 6 : Nat), .int .u64 (dgl (n) 7 : Nat)], .agg #[.int .u64 (dgl (s) 0 : Nat), .int .u64 (dgl (s) 1 : Nat), .int .u64 (dgl (s) 2 : Nat), .int .u64 (dgl (s) 3 : Nat), .int .u64 (dgl (s) 4 : Nat), .int .u64 (dgl (s) 5 : Nat), .int .u64 (dgl (s) 6 : Nat), .int .u64 (dgl (s) 7 : Nat)]] w fun e w' => e = .returned (.int .i64 q) ∧ Below w.heap.size w w'))
    (hq : 0 ≤ q) (w : World) :
    Calls Tryd.prog 21 #[.agg #[.int .u64 (dgl (n) 0 : Nat), .int .u64 (dgl (n) 1 : Nat), .int .u64 (dgl (n) 2 : Nat), .int .u64 (dgl (n) 3 : Nat), .int .u64 (dgl (n) 4 : Nat), .int .u64 (dgl (n) 5 : Nat), .int .u64 (dgl (n) 6 : Nat), .int .u64 (dgl (n) 7 : Nat)], .agg #[.int .u64 (dgl (d) 0 : Nat), .int .u64 (dgl (d) 1 : Nat), .int .u64 (dgl (d) 2 : Nat), .int .u64 (dgl (d) 3 : Nat), .int .u64 (dgl (d) 4 : Nat), .int .u64 (dgl (d) 5 : Nat), .int .u64 (dgl (d) 6 : Nat), .int .u64 (dgl (d) 7 : Nat)]] w fun e w' => e = .returned (.int .i64 4) ∧ Below w.heap.size w w' := by
  have HS := hide (twSt_start n d w 24 24)
  have hl1 : ¬ (120 : Int) < (L : Int) := by omega
  clear hL
  have hq2 : decide (0 ≤ q) = true := decide_eq_true hq
  go_enter Tryd.func21, Tryd.ntmps21
  have hlb := HS.out.lb.1
  go_wp2_with fail
  refine (HLN.out _).mono ?_
  rintro e w1 ⟨rfl, hb1⟩
  replace HS := hide (HS.out.below hb1)
  clear hb1 hlb
  go_upto_region 4 with fail
  refine wp_gen (fun W => TwSt n d w W) HS.out ?_
  clear HS
  rintro W1 h1
  refine wp_region_grow 6 [(13, .val (.agg #[.int .u64 (dgl (n) 0 : Nat), .int .u64 (dgl (n) 1 : Nat), .int .u64 (dgl (n) 2 : Nat), .int .u64 (dgl (n) 3 : Nat), .int .u64 (dgl (n) 4 : Nat), .int .u64 (dgl (n) 5 : Nat), .int .u64 (dgl (n) 6 : Nat), .int .u64 (dgl (n) 7 : Nat)])), (14, .val (.agg #[.int .u64 (dgl (d) 0 : Nat), .int .u64 (dgl (d) 1 : Nat), .int .u64 (dgl (d) 2 : Nat), .int .u64 (dgl (d) 3 : Nat), .int .u64 (dgl (d) 4 : Nat), .int .u64 (dgl (d) 5 : Nat), .int .u64 (dgl (d) 6 : Nat), .int .u64 (dgl (d) 7 : Nat)])), (15, .val (.agg #[.int .u64 (dgl (s) 0 : Nat), .int .u64 (dgl (s) 1 : Nat), .int .u64 (dgl (s) 2 : Nat), .int .u64 (dgl (s) 3 : Nat), .int .u64 (dgl (s) 4 : Nat), .int .u64 (dgl (s) 5 : Nat), .int .u64 (dgl (s) 6 : Nat), .int .u64 (dgl (s) 7 : Nat)])), (16, .val (.int .i64 q)), (17, .val (.bool true)), (9, .val (.bool true))]
    (fun W => TwSt n d w W) mixedOk (by kernel_rfl) (by kernel_rfl) (h1.below (Below.refl _ _).drew) (fun W W' h hb => h.below hb) ?_ ?_
  · refine gSt (gStep_run rfl ?_) ?_
    · intro ρ W hC hc hf hL
      have e2 : ρ (.tmp 2) = .pointer (some ⟨w.heap.size, 0, none⟩) := hL 2 (by decide +kernel)
      have hl := hC.la.1
      simp [go_sem, hc, hf, e2, hl]
      exact ⟨Below.refl _ _, rfl⟩
    refine gSt (gStep_run rfl ?_) ?_
    · intro ρ W hC hc hf hL
      have e3 : ρ (.tmp 3) = .pointer (some ⟨w.heap.size + 1, 0, none⟩) := hL 3 (by decide +kernel)
      have hl := hC.lb.1
      simp [go_sem, hc, hf, e3, hl]
      exact ⟨Below.refl _ _, rfl⟩
    refine gSt (gStep_run rfl ?_) ?_
    · intro ρ W hC hc hf hL
      have e14 : ρ (.tmp 14) = .agg #[.int .u64 (dgl (d) 0 : Nat), .int .u64 (dgl (d) 1 : Nat), .int .u64 (dgl (d) 2 : Nat), .int .u64 (dgl (d) 3 : Nat), .int .u64 (dgl (d) 4 : Nat), .int .u64 (dgl (d) 5 : Nat), .int .u64 (dgl (d) 6 : Nat), .int .u64 (dgl (d) 7 : Nat)] := hL 14 (by decide +kernel)
      simp [go_sem, hc, hf, e14]
      refine (HSH.out W).mono ?_
      rintro e w' ⟨rfl, hb⟩
      exact ⟨_, rfl, by first | exact hb | (subst hb; exact Below.refl _ _), rfl⟩
    refine gSt (gStep_run rfl ?_) ?_
    · intro ρ W hC hc hf hL
      have e13 : ρ (.tmp 13) = .agg #[.int .u64 (dgl (n) 0 : Nat), .int .u64 (dgl (n) 1 : Nat), .int .u64 (dgl (n) 2 : Nat), .int .u64 (dgl (n) 3 : Nat), .int .u64 (dgl (n) 4 : Nat), .int .u64 (dgl (n) 5 : Nat), .int .u64 (dgl (n) 6 : Nat), .int .u64 (dgl (n) 7 : Nat)] := hL 13 (by decide +kernel)
      have e15 : ρ (.tmp 15) = .agg #[.int .u64 (dgl (s) 0 : Nat), .int .u64 (dgl (s) 1 : Nat), .int .u64 (dgl (s) 2 : Nat), .int .u64 (dgl (s) 3 : Nat), .int .u64 (dgl (s) 4 : Nat), .int .u64 (dgl (s) 5 : Nat), .int .u64 (dgl (s) 6 : Nat), .int .u64 (dgl (s) 7 : Nat)] := hL 15 (by decide +kernel)
      simp [go_sem, hc, hf, e13, e15]
      refine (HCM.out W).mono ?_
      rintro e w' ⟨rfl, hb⟩
      exact ⟨_, rfl, by first | exact hb | (subst hb; exact Below.refl _ _), rfl⟩
    refine gSt (gStep_run rfl ?_) ?_
    · intro ρ W hC hc hf hL
      have e16 : ρ (.tmp 16) = .int .i64 q := hL 16 (by decide +kernel)
      simp [go_sem, hc, hf, e16, hq]
      exact ⟨Below.refl _ _, rfl⟩
    refine gSt (gStep_run rfl (gRun_move 17 9 (.inr rfl) rfl (by decide +kernel) (fun v w h => h))) ?_
    exact gSt0
  · intro W hC
    refine gFi 13 rfl ?_
    rintro _ rfl
    refine gFi 14 rfl ?_
    rintro _ rfl
    refine gFi 15 rfl ?_
    rintro _ rfl
    refine gFi 16 rfl ?_
    rintro _ rfl
    refine gFi 17 rfl ?_
    rintro _ rfl
    refine gFi 9 rfl ?_
    rintro _ rfl
    refine gFi0 ?_
    simp only [List.drop_succ_cons, List.drop_zero, Act.put, List.setIfInBounds_toArray, List.set_cons_succ, List.set_cons_zero]
    have HB := hide hC.bel
    clear hC h1
    go_wp2
    go_ret
    exact ⟨rfl, HB.out⟩

set_option maxHeartbeats 2000000 in
theorem pmay_N (n d L s : Nat) (q : Int)
    (HZ : ∀ w, (Op.equalIn 10000 24 (.agg #[.int .u64 (dgl (d) 0 : Nat), .int .u64 (dgl (d) 1 : Nat), .int .u64 (dgl (d) 2 : Nat), .int .u64 (dgl (d) 3 : Nat), .int .u64 (dgl (d) 4 : Nat), .int .u64 (dgl (d) 5 : Nat), .int .u64 (dgl (d) 6 : Nat), .int .u64 (dgl (d) 7 : Nat)]) (.agg #[.int .u64 0, .int .u64 0, .int .u64 0, .int .u64 0, .int .u64 0, .int .u64 0, .int .u64 0, .int .u64 0])).run Tryd.prog w = .ok false w)
    (HLN : Hid (∀ w, Calls Tryd.prog 44 #[.agg #[.int .u64 (dgl (d) 0 : Nat), .int .u64 (dgl (d) 1 : Nat), .int .u64 (dgl (d) 2 : Nat), .int .u64 (dgl (d) 3 : Nat), .int .u64 (dgl (d) 4 : Nat), .int .u64 (dgl (d) 5 : Nat), .int .u64 (dgl (d) 6 : Nat), .int .u64 (dgl (d) 7 : Nat)]] w fun e w' => e = .returned (.int .i64 ((L : Nat) : Int)) ∧ Below w.heap.size w w'))
    (hL : L ≤ 120)
    (HSH : Hid (∀ w, Calls Tryd.prog 29 #[.agg #[.int .u64 (dgl (d) 0 : Nat), .int .u64 (dgl (d) 1 : Nat), .int .u64 (dgl (d) 2 : Nat), .int .u64 (dgl (d) 3 : Nat), .int .u64 (dgl (d) 4 : Nat), .int .u64 (dgl (d) 5 : Nat), .int .u64 (dgl (d) 6 : Nat), .int .u64 (dgl (d) 7 : Nat)], .int .i64 128] w fun e w' => e = .returned (.agg #[.int .u64 (dgl (s) 0 : Nat), .int .u64 (dgl (s) 1 : Nat), .int .u64 (dgl (s) 2 : Nat), .int .u64 (dgl (s) 3 : Nat), .int .u64 (dgl (s) 4 : Nat), .int .u64 (dgl (s) 5 : Nat), .int .u64 (dgl (s) 6 : Nat), .int .u64 (dgl (s) 7 : Nat)]) ∧ Below w.heap.size w w'))
    (HCM : Hid (∀ w, Calls Tryd.prog 48 #[.agg #[.int .u64 (dgl (n) 0 : Nat), .int .u64 (dgl (n) 1 : Nat), .int .u64 (dgl (n) 2 : Nat), .int .u64 (dgl (n) 3 : Nat), .int .u64 (dgl (n) 4 : Nat), .int .u64 (dgl (n) 5 : Nat), .int .u64 (dgl (n) 6 : Nat), .int .u64 (dgl (n) 7 : Nat)], .agg #[.int .u64 (dgl (s) 0 : Nat), .int .u64 (dgl (s) 1 : Nat), .int .u64 (dgl (s) 2 : Nat), .int .u64 (dgl (s) 3 : Nat), .int .u64 (dgl (s) 4 : Nat), .int .u64 (dgl (s) 5 : Nat), .int .u64 (dgl (s) 6 : Nat), .int .u64 (dgl (s) 7 : Nat)]] w fun e w' => e = .returned (.int .i64 q) ∧ Below w.heap.size w w'))
    (hq : ¬ 0 ≤ q) (w : World) :
    Calls Tryd.prog 21 #[.agg #[.int .u64 (dgl (n) 0 : Nat), .int .u64 (dgl (n) 1 : Nat), .int .u64 (dgl (n) 2 : Nat), .int .u64 (dgl (n) 3 : Nat), .int .u64 (dgl (n) 4 : Nat), .int .u64 (dgl (n) 5 : Nat), .int .u64 (dgl (n) 6 : Nat), .int .u64 (dgl (n) 7 : Nat)], .agg #[.int .u64 (dgl (d) 0 : Nat), .int .u64 (dgl (d) 1 : Nat), .int .u64 (dgl (d) 2 : Nat), .int .u64 (dgl (d) 3 : Nat), .int .u64 (dgl (d) 4 : Nat), .int .u64 (dgl (d) 5 : Nat), .int .u64 (dgl (d) 6 : Nat), .int .u64 (dgl (d) 7 : Nat)]] w fun e w' => e = .returned (.int .i64 0) ∧ Below w.heap.size w w' := by
  have HS := hide (twSt_start n d w 24 24)
  have hl1 : ¬ (120 : Int) < (L : Int) := by omega
  clear hL
  have hq2 : decide (0 ≤ q) = false := decide_eq_false hq
  go_enter Tryd.func21, Tryd.ntmps21
  have hlb := HS.out.lb.1
  go_wp2_with fail
  refine (HLN.out _).mono ?_
  rintro e w1 ⟨rfl, hb1⟩
  replace HS := hide (HS.out.below hb1)
  clear hb1 hlb
  go_upto_region 4 with fail
  refine wp_gen (fun W => TwSt n d w W) HS.out ?_
  clear HS
  rintro W1 h1
  refine wp_region_grow 6 [(13, .val (.agg #[.int .u64 (dgl (n) 0 : Nat), .int .u64 (dgl (n) 1 : Nat), .int .u64 (dgl (n) 2 : Nat), .int .u64 (dgl (n) 3 : Nat), .int .u64 (dgl (n) 4 : Nat), .int .u64 (dgl (n) 5 : Nat), .int .u64 (dgl (n) 6 : Nat), .int .u64 (dgl (n) 7 : Nat)])), (14, .val (.agg #[.int .u64 (dgl (d) 0 : Nat), .int .u64 (dgl (d) 1 : Nat), .int .u64 (dgl (d) 2 : Nat), .int .u64 (dgl (d) 3 : Nat), .int .u64 (dgl (d) 4 : Nat), .int .u64 (dgl (d) 5 : Nat), .int .u64 (dgl (d) 6 : Nat), .int .u64 (dgl (d) 7 : Nat)])), (15, .val (.agg #[.int .u64 (dgl (s) 0 : Nat), .int .u64 (dgl (s) 1 : Nat), .int .u64 (dgl (s) 2 : Nat), .int .u64 (dgl (s) 3 : Nat), .int .u64 (dgl (s) 4 : Nat), .int .u64 (dgl (s) 5 : Nat), .int .u64 (dgl (s) 6 : Nat), .int .u64 (dgl (s) 7 : Nat)])), (16, .val (.int .i64 q)), (17, .val (.bool false)), (9, .val (.bool false))]
    (fun W => TwSt n d w W) mixedOk (by kernel_rfl) (by kernel_rfl) (h1.below (Below.refl _ _).drew) (fun W W' h hb => h.below hb) ?_ ?_
  · refine gSt (gStep_run rfl ?_) ?_
    · intro ρ W hC hc hf hL
      have e2 : ρ (.tmp 2) = .pointer (some ⟨w.heap.size, 0, none⟩) := hL 2 (by decide +kernel)
      have hl := hC.la.1
      simp [go_sem, hc, hf, e2, hl]
      exact ⟨Below.refl _ _, rfl⟩
    refine gSt (gStep_run rfl ?_) ?_
    · intro ρ W hC hc hf hL
      have e3 : ρ (.tmp 3) = .pointer (some ⟨w.heap.size + 1, 0, none⟩) := hL 3 (by decide +kernel)
      have hl := hC.lb.1
      simp [go_sem, hc, hf, e3, hl]
      exact ⟨Below.refl _ _, rfl⟩
    refine gSt (gStep_run rfl ?_) ?_
    · intro ρ W hC hc hf hL
      have e14 : ρ (.tmp 14) = .agg #[.int .u64 (dgl (d) 0 : Nat), .int .u64 (dgl (d) 1 : Nat), .int .u64 (dgl (d) 2 : Nat), .int .u64 (dgl (d) 3 : Nat), .int .u64 (dgl (d) 4 : Nat), .int .u64 (dgl (d) 5 : Nat), .int .u64 (dgl (d) 6 : Nat), .int .u64 (dgl (d) 7 : Nat)] := hL 14 (by decide +kernel)
      simp [go_sem, hc, hf, e14]
      refine (HSH.out W).mono ?_
      rintro e w' ⟨rfl, hb⟩
      exact ⟨_, rfl, by first | exact hb | (subst hb; exact Below.refl _ _), rfl⟩
    refine gSt (gStep_run rfl ?_) ?_
    · intro ρ W hC hc hf hL
      have e13 : ρ (.tmp 13) = .agg #[.int .u64 (dgl (n) 0 : Nat), .int .u64 (dgl (n) 1 : Nat), .int .u64 (dgl (n) 2 : Nat), .int .u64 (dgl (n) 3 : Nat), .int .u64 (dgl (n) 4 : Nat), .int .u64 (dgl (n) 5 : Nat), .int .u64 (dgl (n) 6 : Nat), .int .u64 (dgl (n) 7 : Nat)] := hL 13 (by decide +kernel)
      have e15 : ρ (.tmp 15) = .agg #[.int .u64 (dgl (s) 0 : Nat), .int .u64 (dgl (s) 1 : Nat), .int .u64 (dgl (s) 2 : Nat), .int .u64 (dgl (s) 3 : Nat), .int .u64 (dgl (s) 4 : Nat), .int .u64 (dgl (s) 5 : Nat), .int .u64 (dgl (s) 6 : Nat), .int .u64 (dgl (s) 7 : Nat)] := hL 15 (by decide +kernel)
      simp [go_sem, hc, hf, e13, e15]
      refine (HCM.out W).mono ?_
      rintro e w' ⟨rfl, hb⟩
      exact ⟨_, rfl, by first | exact hb | (subst hb; exact Below.refl _ _), rfl⟩
    refine gSt (gStep_run rfl ?_) ?_
    · intro ρ W hC hc hf hL
      have e16 : ρ (.tmp 16) = .int .i64 q := hL 16 (by decide +kernel)
      simp [go_sem, hc, hf, e16, hq2]
      exact ⟨Below.refl _ _, rfl⟩
    refine gSt (gStep_run rfl (gRun_move 17 9 (.inr rfl) rfl (by decide +kernel) (fun v w h => h))) ?_
    exact gSt0
  · intro W hC
    refine gFi 13 rfl ?_
    rintro _ rfl
    refine gFi 14 rfl ?_
    rintro _ rfl
    refine gFi 15 rfl ?_
    rintro _ rfl
    refine gFi 16 rfl ?_
    rintro _ rfl
    refine gFi 17 rfl ?_
    rintro _ rfl
    refine gFi 9 rfl ?_
    rintro _ rfl
    refine gFi0 ?_
    simp only [List.drop_succ_cons, List.drop_zero, Act.put, List.setIfInBounds_toArray, List.set_cons_succ, List.set_cons_zero]
    have HB := hide hC.bel
    clear hC h1
    go_wp2
    go_ret
    exact ⟨rfl, HB.out⟩

theorem may_any (n d : Nat) (hn : n < QQ) (hd : d < QQ) (w : World) : Calls Tryd.prog 21 #[.agg #[.int .u64 (dgl (n) 0 : Nat), .int .u64 (dgl (n) 1 : Nat), .int .u64 (dgl (n) 2 : Nat), .int .u64 (dgl (n) 3 : Nat), .int .u64 (dgl (n) 4 : Nat), .int .u64 (dgl (n) 5 : Nat), .int .u64 (dgl (n) 6 : Nat), .int .u64 (dgl (n) 7 : Nat)], .agg #[.int .u64 (dgl (d) 0 : Nat), .int .u64 (dgl (d) 1 : Nat), .int .u64 (dgl (d) 2 : Nat), .int .u64 (dgl (d) 3 : Nat), .int .u64 (dgl (d) 4 : Nat), .int .u64 (dgl (d) 5 : Nat), .int .u64 (dgl (d) 6 : Nat), .int .u64 (dgl (d) 7 : Nat)]] w fun e w' => e = .returned (.int .i64 ((mayN n d : Nat) : Int)) ∧ Below w.heap.size w w' := by
  have HLN := fun w => wideLen_any d hd w
  unfold mayN
  by_cases h1 : d = 0
  · rw [if_pos h1]
    refine pmay_Z n d 0 0 0 (fun w => ?_) w
    have := wide_eqz hd w
    rw [decide_eq_true h1] at this
    exact this
  rw [if_neg h1]
  have HZ : ∀ w, (Op.equalIn 10000 24 (.agg #[.int .u64 (dgl (d) 0 : Nat), .int .u64 (dgl (d) 1 : Nat), .int .u64 (dgl (d) 2 : Nat), .int .u64 (dgl (d) 3 : Nat), .int .u64 (dgl (d) 4 : Nat), .int .u64 (dgl (d) 5 : Nat), .int .u64 (dgl (d) 6 : Nat), .int .u64 (dgl (d) 7 : Nat)]) (.agg #[.int .u64 0, .int .u64 0, .int .u64 0, .int .u64 0, .int .u64 0, .int .u64 0, .int .u64 0, .int .u64 0])).run Tryd.prog w = .ok false w := fun w => by
    have := wide_eqz hd w
    rw [decide_eq_false h1] at this
    exact this
  by_cases h2 : 2 ^ 120 ≤ d
  · rw [if_pos h2]
    exact pmay_B n d _ 0 0 HZ HLN ((bitLen_above d 120).2 h2) w
  rw [if_neg h2]
  have hL2 : Go.bitLen d ≤ 120 := by
    rcases Nat.lt_or_ge 120 (Go.bitLen d) with h | h
    · exact absurd ((bitLen_above d 120).1 h) h2
    · exact h
  have hsq : d * 2 ^ 128 < QQ := by
    have h3 : d * 2 ^ 128 < 2 ^ 120 * 2 ^ 128 := Nat.mul_lt_mul_of_pos_right (by omega) (Nat.two_pow_pos _)
    have h4 : 2 ^ 120 * 2 ^ 128 < QQ := by decide +kernel
    exact Nat.lt_trans h3 h4
  have HSH : ∀ w, Calls Tryd.prog 29 #[.agg #[.int .u64 (dgl (d) 0 : Nat), .int .u64 (dgl (d) 1 : Nat), .int .u64 (dgl (d) 2 : Nat), .int .u64 (dgl (d) 3 : Nat), .int .u64 (dgl (d) 4 : Nat), .int .u64 (dgl (d) 5 : Nat), .int .u64 (dgl (d) 6 : Nat), .int .u64 (dgl (d) 7 : Nat)], .int .i64 128] w fun e w' => e = .returned (.agg #[.int .u64 (dgl (d * 2 ^ 128) 0 : Nat), .int .u64 (dgl (d * 2 ^ 128) 1 : Nat), .int .u64 (dgl (d * 2 ^ 128) 2 : Nat), .int .u64 (dgl (d * 2 ^ 128) 3 : Nat), .int .u64 (dgl (d * 2 ^ 128) 4 : Nat), .int .u64 (dgl (d * 2 ^ 128) 5 : Nat), .int .u64 (dgl (d * 2 ^ 128) 6 : Nat), .int .u64 (dgl (d * 2 ^ 128) 7 : Nat)]) ∧ Below w.heap.size w w' := by
    intro w
    obtain ⟨k, hk⟩ : ∃ k : Nat, k = 128 := ⟨_, rfl⟩
    have h := wideShl_any d (k : Nat) hd w
    rw [show roomI (k : Nat) = ((k : Nat) : Int) by unfold roomI; omega, sh_up] at h
    rw [hk] at h
    exact h
  generalize d * 2 ^ 128 = s at *
  have HCM := fun w => wideCmp_any n s hn hsq w
  by_cases h3 : s ≤ n
  · rw [if_pos h3]
    exact pmay_G n d _ _ _ HZ HLN hL2 HSH HCM (by unfold cmpN; split <;> omega) w
  · rw [if_neg h3]
    exact pmay_N n d _ _ _ HZ HLN hL2 HSH HCM (by unfold cmpN; split <;> omega) w

end Go.Proofs.YtbngaajhdaciaaaDoor

/- Contracts: radix2.Divide. -/
set_option linter.unusedVariables false
set_option linter.unusedSimpArgs false
set_option maxRecDepth 8000
namespace Go.Proofs.YtbngaajhdaciaaaDoor
open Go.RowKit Plain

theorem app22 (a b c d : Value) : (#[a, b] ++ #[c, d] : Array Value) = #[a, b, c, d] := rfl
theorem quo_step (q p : Nat) : q / 2 ^ (p + 1) + q / 2 ^ (p + 1) + q / 2 ^ p % 2 = q / 2 ^ p := by
  rw [Nat.pow_succ, ← Nat.div_div_eq_div_mul]
  omega
theorem div_small {d : Nat} (h : d < 2 ^ 120) : ∀ p, p < 128 → d * 2 ^ p < QQ := by
  intro p hp
  have h1 : d * 2 ^ p ≤ d * 2 ^ 128 := Nat.mul_le_mul_left _ (Nat.pow_le_pow_right (by decide) (by omega))
  have h2 : d * 2 ^ 128 < 2 ^ 120 * 2 ^ 128 := Nat.mul_lt_mul_of_pos_right h (Nat.two_pow_pos _)
  have h3 : 2 ^ 120 * 2 ^ 128 < QQ := by decide +kernel
  exact Nat.lt_of_le_of_lt h1 (Nat.lt_trans h2 h3)
theorem may_quo {n d : Nat} (h : mayN n d = 0) : n / d < 2 ^ 128 := by
  obtain ⟨h1, h2, h3⟩ := mayN_zero h
  rw [Nat.div_lt_iff_lt_mul h1, Nat.mul_comm]
  exact h3
/-- What Divide goes by: its results, quotient and rest. -/
structure DqSt (p8 p9 x y : Nat) (w W : World) : Prop where
  r : R2St (w.heap.size + 2) (w.heap.size + 3) 0 0 w W
  l8 : LiesF W p8 (dgl x)
  f8 : ∀ i, W.frozen? ⟨p8, i, none⟩ = false
  l9 : LiesF W p9 (dgl y)
  f9 : ∀ i, W.frozen? ⟨p9, i, none⟩ = false
  o8 : w.heap.size + 3 < p8
  o9 : p8 < p9
theorem DqSt.below {p8 p9 x y : Nat} {w W W' : World} (h : DqSt p8 p9 x y w W) (hb : Below W.heap.size W W') : DqSt p8 p9 x y w W' :=
  ⟨h.r.below hb, h.l8.below hb, fun i => (hb.frozen (p := ⟨p8, i, none⟩) h.l8.2).trans (h.f8 i), h.l9.below hb, fun i => (hb.frozen (p := ⟨p9, i, none⟩) h.l9.2).trans (h.f9 i), h.o8, h.o9⟩
theorem DqSt.apart {B p8 p9 x y : Nat} {w W W' : World} (h : DqSt p8 p9 x y w W) (hb : Apart3 B W W') (hB : p9 < B) : DqSt p8 p9 x y w W' := by
  have h8 := h.o8
  have h9 := h.o9
  exact ⟨hb.r2 h.r (by omega), hb.lies h.l8 (.inl (by omega)), fun i => (hb.frozen h.l8.2 (.inl (by omega))).trans (h.f8 i), hb.lies h.l9 (.inl hB), fun i => (hb.frozen h.l9.2 (.inl hB)).trans (h.f9 i), h8, h9⟩
theorem dqSt_new (w W : World) (hr : R2St (w.heap.size + 2) (w.heap.size + 3) 0 0 w W) (e1 e2 : TypeId) : DqSt W.heap.size (W.heap.size + 1) 0 0 w ((W.alloc (.cells #[.int .u64 0, .int .u64 0, .int .u64 0, .int .u64 0, .int .u64 0, .int .u64 0, .int .u64 0, .int .u64 0] e1)).alloc (.cells #[.int .u64 0, .int .u64 0, .int .u64 0, .int .u64 0, .int .u64 0, .int .u64 0, .int .u64 0, .int .u64 0] e2)) := by
  have h := r2_new W W (Below.refl _ _) e1 e2
  exact ⟨(hr.below (below_allocs _ _)).below (below_allocs _ _), h.lx, h.fx, h.ly, h.fy, hr.ly.2, by omega⟩

set_option maxHeartbeats 2000000 in
theorem pdiv_E (n d : Nat) (ez : Int) (he : (ez == 0) = false) (HM : Hid (∀ w, Calls Tryd.prog 21 #[.agg #[.int .u64 (dgl (n) 0 : Nat), .int .u64 (dgl (n) 1 : Nat), .int .u64 (dgl (n) 2 : Nat), .int .u64 (dgl (n) 3 : Nat), .int .u64 (dgl (n) 4 : Nat), .int .u64 (dgl (n) 5 : Nat), .int .u64 (dgl (n) 6 : Nat), .int .u64 (dgl (n) 7 : Nat)], .agg #[.int .u64 (dgl (d) 0 : Nat), .int .u64 (dgl (d) 1 : Nat), .int .u64 (dgl (d) 2 : Nat), .int .u64 (dgl (d) 3 : Nat), .int .u64 (dgl (d) 4 : Nat), .int .u64 (dgl (d) 5 : Nat), .int .u64 (dgl (d) 6 : Nat), .int .u64 (dgl (d) 7 : Nat)]] w fun e w' => e = .returned (.int .i64 ez) ∧ Below w.heap.size w w')) (w : World) :
    Calls Tryd.prog 24 #[.agg #[.int .u64 (dgl (n) 0 : Nat), .int .u64 (dgl (n) 1 : Nat), .int .u64 (dgl (n) 2 : Nat), .int .u64 (dgl (n) 3 : Nat), .int .u64 (dgl (n) 4 : Nat), .int .u64 (dgl (n) 5 : Nat), .int .u64 (dgl (n) 6 : Nat), .int .u64 (dgl (n) 7 : Nat)], .agg #[.int .u64 (dgl (d) 0 : Nat), .int .u64 (dgl (d) 1 : Nat), .int .u64 (dgl (d) 2 : Nat), .int .u64 (dgl (d) 3 : Nat), .int .u64 (dgl (d) 4 : Nat), .int .u64 (dgl (d) 5 : Nat), .int .u64 (dgl (d) 6 : Nat), .int .u64 (dgl (d) 7 : Nat)]] w fun e' w' => e' = .returned (.tuple #[.agg #[.int .u64 0, .int .u64 0, .int .u64 0, .int .u64 0, .int .u64 0, .int .u64 0, .int .u64 0, .int .u64 0], .agg #[.int .u64 0, .int .u64 0, .int .u64 0, .int .u64 0, .int .u64 0, .int .u64 0, .int .u64 0, .int .u64 0], .int .i64 ez]) ∧ Below w.heap.size w w' := by
  have HS := hide (rdiv_start n d w 24 24 24 24)
  go_enter Tryd.func24, Tryd.ntmps24
  have hca := HS.out.1.la.1
  have hcb := HS.out.1.lb.1
  go_wp2_with fail
  refine (HM.out _).mono ?_
  rintro e' w1 ⟨rfl, hb1⟩
  replace HS := hide (HS.out.2.below hb1)
  clear hb1 hca hcb
  have hr1 := HS.out.lx.1
  have hrl1 := HS.out.lx.2
  have hrf1 := HS.out.fx
  have hr2 := HS.out.ly.1
  have hrl2 := HS.out.ly.2
  have hrf2 := HS.out.fy
  have HBE := hide HS.out.bel
  clear HS
  go_wp2
  exact bodyPost_ret (v := .tuple #[.agg #[.int .u64 0, .int .u64 0, .int .u64 0, .int .u64 0, .int .u64 0, .int .u64 0, .int .u64 0, .int .u64 0], .agg #[.int .u64 0, .int .u64 0, .int .u64 0, .int .u64 0, .int .u64 0, .int .u64 0, .int .u64 0, .int .u64 0], .int .i64 ez]) (by simp [results, Tryd.results24, go_sem, hr1, hrl1, hr2, hrl2]) rfl ⟨rfl, below_set8 (below_set8 HBE.out _ (by omega) _ _ _ _ _ _ _ _) _ (by omega) _ _ _ _ _ _ _ _⟩

set_option maxHeartbeats 4000000 in
theorem pdiv_Y (n d : Nat) (hn : n < QQ) (hm : mayN n d = 0) (HM : Hid (∀ w, Calls Tryd.prog 21 #[.agg #[.int .u64 (dgl (n) 0 : Nat), .int .u64 (dgl (n) 1 : Nat), .int .u64 (dgl (n) 2 : Nat), .int .u64 (dgl (n) 3 : Nat), .int .u64 (dgl (n) 4 : Nat), .int .u64 (dgl (n) 5 : Nat), .int .u64 (dgl (n) 6 : Nat), .int .u64 (dgl (n) 7 : Nat)], .agg #[.int .u64 (dgl (d) 0 : Nat), .int .u64 (dgl (d) 1 : Nat), .int .u64 (dgl (d) 2 : Nat), .int .u64 (dgl (d) 3 : Nat), .int .u64 (dgl (d) 4 : Nat), .int .u64 (dgl (d) 5 : Nat), .int .u64 (dgl (d) 6 : Nat), .int .u64 (dgl (d) 7 : Nat)]] w fun e w' => e = .returned (.int .i64 0) ∧ Below w.heap.size w w')) (w : World) :
    Calls Tryd.prog 24 #[.agg #[.int .u64 (dgl (n) 0 : Nat), .int .u64 (dgl (n) 1 : Nat), .int .u64 (dgl (n) 2 : Nat), .int .u64 (dgl (n) 3 : Nat), .int .u64 (dgl (n) 4 : Nat), .int .u64 (dgl (n) 5 : Nat), .int .u64 (dgl (n) 6 : Nat), .int .u64 (dgl (n) 7 : Nat)], .agg #[.int .u64 (dgl (d) 0 : Nat), .int .u64 (dgl (d) 1 : Nat), .int .u64 (dgl (d) 2 : Nat), .int .u64 (dgl (d) 3 : Nat), .int .u64 (dgl (d) 4 : Nat), .int .u64 (dgl (d) 5 : Nat), .int .u64 (dgl (d) 6 : Nat), .int .u64 (dgl (d) 7 : Nat)]] w fun e' w' => e' = .returned (.tuple #[.agg #[.int .u64 (dgl (n / d) 0 : Nat), .int .u64 (dgl (n / d) 1 : Nat), .int .u64 (dgl (n / d) 2 : Nat), .int .u64 (dgl (n / d) 3 : Nat), .int .u64 (dgl (n / d) 4 : Nat), .int .u64 (dgl (n / d) 5 : Nat), .int .u64 (dgl (n / d) 6 : Nat), .int .u64 (dgl (n / d) 7 : Nat)], .agg #[.int .u64 (dgl (n % d) 0 : Nat), .int .u64 (dgl (n % d) 1 : Nat), .int .u64 (dgl (n % d) 2 : Nat), .int .u64 (dgl (n % d) 3 : Nat), .int .u64 (dgl (n % d) 4 : Nat), .int .u64 (dgl (n % d) 5 : Nat), .int .u64 (dgl (n % d) 6 : Nat), .int .u64 (dgl (n % d) 7 : Nat)], .int .i64 0]) ∧ Below w.heap.size w w' := by
  have HS := hide (rdiv_start n d w 24 24 24 24)
  have hz := mayN_zero hm
  have HQ := hide (may_quo hm)
  have HRS : Hid (∀ p8 p9 W, DqSt p8 p9 0 0 w W → p9 < W.heap.size → Calls Tryd.prog 50 #[.agg #[.int .u64 (dgl (n) 0 : Nat), .int .u64 (dgl (n) 1 : Nat), .int .u64 (dgl (n) 2 : Nat), .int .u64 (dgl (n) 3 : Nat), .int .u64 (dgl (n) 4 : Nat), .int .u64 (dgl (n) 5 : Nat), .int .u64 (dgl (n) 6 : Nat), .int .u64 (dgl (n) 7 : Nat)], .agg #[.int .u64 (dgl (d) 0 : Nat), .int .u64 (dgl (d) 1 : Nat), .int .u64 (dgl (d) 2 : Nat), .int .u64 (dgl (d) 3 : Nat), .int .u64 (dgl (d) 4 : Nat), .int .u64 (dgl (d) 5 : Nat), .int .u64 (dgl (d) 6 : Nat), .int .u64 (dgl (d) 7 : Nat)], .func (.func 51) #[] #[.pointer (some ⟨p8, 0, none⟩), .pointer (some ⟨p9, 0, none⟩)]] W fun e w' => e = .returned (.tuple #[]) ∧ DqSt p8 p9 (n / d) (n % d) w w') := by
    intro p8 p9 W hW hp9
    have hq := may_quo hm
    refine (restore_any 51 #[.pointer (some ⟨p8, 0, none⟩), .pointer (some ⟨p9, 0, none⟩)] n d (fun _ => true) (fun c wr => DqSt p8 p9 (n / d / 2 ^ c) (if c = 128 then 0 else leftN n d c) w wr) W hn hz.1 hq (div_small hz.2.1) (enters_of Tryd.func51 (by kernel_rfl) rfl) ?_ ?_ ?_).mono ?_
    · intro p wr hp hI hsz _
      rw [app22]
      have hb := bitN_cases (n / d) p
      have hx : n / d / 2 ^ (p + 1) < 2 ^ 128 := Nat.lt_of_le_of_lt (Nat.div_le_self _ _) hq
      refine (div1_any (n / d / 2 ^ p % 2) (leftN n d p) p8 p9 (n / d / 2 ^ (p + 1)) _ wr (by omega) hx hI.l8 hI.f8 hI.l9 hI.f9 (Nat.ne_of_lt hI.o9)).mono ?_
      rintro e w' ⟨rfl, h1, h2, h3, h4, h5⟩
      rw [quo_step] at h1
      have h8 := hI.o8
      have h9 := hI.o9
      refine ⟨rfl, ⟨h5.r2 hI.r (by omega) (by omega), h1, h2, ?_, h4, h8, h9⟩, h5.kept (.inl (by omega)) (.inl (by omega)) hsz⟩
      rw [if_neg (by omega)]
      exact h3
    · intro c wr wr' hI hb
      exact hI.apart hb hp9
    · rw [if_pos rfl, Nat.div_eq_of_lt hq]
      exact hW
    · rintro e w' ⟨rfl, c, hc, hI, hE⟩
      rcases hE with rfl | ⟨_, h⟩
      · rw [Nat.pow_zero, Nat.div_one, if_neg (by decide), leftN_zero] at hI
        exact ⟨rfl, hI⟩
      · cases h
  clear hz hn hm
  generalize n / d = q at *
  generalize n % d = r at *
  go_enter Tryd.func24, Tryd.ntmps24
  have hca := HS.out.1.la.1
  have hcb := HS.out.1.lb.1
  go_wp2_with fail
  refine (HM.out _).mono ?_
  rintro e' w1 ⟨rfl, hb1⟩
  replace HS := hide (show TwSt n d w w1 ∧ R2St (w.heap.size + 2) (w.heap.size + 3) 0 0 w w1 from ⟨HS.out.1.below hb1, HS.out.2.below hb1⟩)
  clear hb1 hca hcb
  go_upto_region 5 with fail
  have hbw := below_trans (below_allocs w1 (.cells #[.int .u64 0, .int .u64 0, .int .u64 0, .int .u64 0, .int .u64 0, .int .u64 0, .int .u64 0, .int .u64 0] 24)) (below_allocs _ (.cells #[.int .u64 0, .int .u64 0, .int .u64 0, .int .u64 0, .int .u64 0, .int .u64 0, .int .u64 0, .int .u64 0] 24))
  refine wp_gen (fun W => TwSt n d w W ∧ DqSt w1.heap.size (w1.heap.size + 1) 0 0 w W) ⟨HS.out.1.below hbw, dqSt_new w w1 HS.out.2 _ _⟩ ?_
  clear HS hbw
  obtain ⟨p9, hp9⟩ : ∃ p9, w1.heap.size + 1 = p9 := ⟨_, rfl⟩
  rw [hp9]
  clear hp9
  generalize w1.heap.size = p8 at *
  rintro W5 h5
  have HS := hide h5.2
  have hca := h5.1.la.1
  have hcb := h5.1.lb.1
  clear h5
  go_wp2_with fail
  refine (HRS.out _ _ _ HS.out HS.out.l9.2).mono ?_
  rintro e w6 ⟨rfl, h6⟩
  clear HS hca hcb
  have HS6 := hide (show R2St (w.heap.size + 2) (w.heap.size + 3) 0 0 w w6 ∧ LiesF w6 p8 (dgl q) ∧ LiesF w6 p9 (dgl r) from ⟨h6.r, h6.l8, h6.l9⟩)
  have HNE := hide (show w.heap.size + 3 < p8 ∧ w.heap.size + 3 < p9 from ⟨h6.o8, Nat.lt_trans h6.o8 h6.o9⟩)
  clear h6
  go_upto_region 6 with fail
  refine wp_region_storeK 5 [2, 3] [22, 23, 6] (fun bs => [(22, .val (.agg #[.int .u64 (dgl (q) 0 : Nat), .int .u64 (dgl (q) 1 : Nat), .int .u64 (dgl (q) 2 : Nat), .int .u64 (dgl (q) 3 : Nat), .int .u64 (dgl (q) 4 : Nat), .int .u64 (dgl (q) 5 : Nat), .int .u64 (dgl (q) 6 : Nat), .int .u64 (dgl (q) 7 : Nat)])), (23, .val (.agg #[.int .u64 (dgl (r) 0 : Nat), .int .u64 (dgl (r) 1 : Nat), .int .u64 (dgl (r) 2 : Nat), .int .u64 (dgl (r) 3 : Nat), .int .u64 (dgl (r) 4 : Nat), .int .u64 (dgl (r) 5 : Nat), .int .u64 (dgl (r) 6 : Nat), .int .u64 (dgl (r) 7 : Nat)])), (6, .val (.int .i64 0))])
    (fun bs W => (∀ c e, bs.headD false = c → bs.tail.headD false = e → R2St (w.heap.size + 2) (w.heap.size + 3) (bif c then q else 0) (bif e then r else 0) w W) ∧ LiesF W p8 (dgl (q)) ∧ LiesF W p9 (dgl (r))) (fun bs => rfl) mixedOk (by kernel_rfl) (by kernel_rfl) (by kernel_rfl) (⟨fun c e hc he => by subst hc; subst he; exact (HS6.out).1.below (Below.refl _ _).drew, (HS6.out).2.1.below (Below.refl _ _).drew, (HS6.out).2.2.below (Below.refl _ _).drew⟩) (fun bs W W' h hb => ⟨fun c e hc he => (h.1 c e hc he).below hb, h.2.1.below hb, h.2.2.below hb⟩) ?_ ?_
  · refine kSt rfl (fun φ hφ => gStep_run rfl ?_) ?_
    · intro ρ W hC hc hf hL
      have e8 : ρ (.tmp 8) = .pointer (some ⟨p8, 0, none⟩) := hL 8 (by decide +kernel)
      have hl := hC.2.1.1
      simp [go_sem, hc, hf, e8, hl]
      exact ⟨Below.refl _ _, rfl⟩
    refine kSt rfl (fun φ hφ => gStep_run rfl ?_) ?_
    · intro ρ W hC hc hf hL
      have e9 : ρ (.tmp 9) = .pointer (some ⟨p9, 0, none⟩) := hL 9 (by decide +kernel)
      have hl := hC.2.2.1
      simp [go_sem, hc, hf, e9, hl]
      exact ⟨Below.refl _ _, rfl⟩
    refine kStS rfl ⟨rfl, rfl, ?_⟩ ?_
    · intro φ ρ W hφ hC hc hL
      have e4 : ρ (.tmp 4) = .pointer (some ⟨w.heap.size + 2, 0, none⟩) := hL 4 (by decide +kernel)
      have e22 : ρ (.tmp 22) = .agg #[.int .u64 (dgl (q) 0 : Nat), .int .u64 (dgl (q) 1 : Nat), .int .u64 (dgl (q) 2 : Nat), .int .u64 (dgl (q) 3 : Nat), .int .u64 (dgl (q) 4 : Nat), .int .u64 (dgl (q) 5 : Nat), .int .u64 (dgl (q) 6 : Nat), .int .u64 (dgl (q) 7 : Nat)] := hL 22 (by decide +kernel)
      have g : R2St (w.heap.size + 2) (w.heap.size + 3) 0 (bif φ 3 then r else 0) w W := hC.1 false (φ 3) (by simp [hφ]) rfl
      have hz := g.lx.1
      have hzl := g.lx.2
      have hzf := g.fx
      have hne := HNE.out
      refine gUpon_of ((((((((W.setCell ⟨w.heap.size + 2, 0, none⟩ (.int .u64 (dgl (q) 0 : Nat))).setCell ⟨w.heap.size + 2, 1, none⟩ (.int .u64 (dgl (q) 1 : Nat))).setCell ⟨w.heap.size + 2, 2, none⟩ (.int .u64 (dgl (q) 2 : Nat))).setCell ⟨w.heap.size + 2, 3, none⟩ (.int .u64 (dgl (q) 3 : Nat))).setCell ⟨w.heap.size + 2, 4, none⟩ (.int .u64 (dgl (q) 4 : Nat))).setCell ⟨w.heap.size + 2, 5, none⟩ (.int .u64 (dgl (q) 5 : Nat))).setCell ⟨w.heap.size + 2, 6, none⟩ (.int .u64 (dgl (q) 6 : Nat))).setCell ⟨w.heap.size + 2, 7, none⟩ (.int .u64 (dgl (q) 7 : Nat))) ?_ (fun _ => ?_)
      · simp [go_sem, hc, e4, e22, hz, hzl, hzf, gUpon]
      refine ⟨⟨fun c e hc he => ?_, lies_ne hC.2.1 (by omega), lies_ne hC.2.2 (by omega)⟩, fun t => ?_⟩
      · have hc1 : c = true := by rw [← hc]; simp
        have he1 : e = (φ 3) := by rw [← he]; simp
        subst hc1
        subst he1
        exact g.set1 _
      refine (tbl_imp rfl (fun _ => val_imp) (tbl_imp rfl (fun _ => val_imp) (tbl_imp rfl (fun _ => val_imp) tbl_nil_imp)))
    refine kStS rfl ⟨rfl, rfl, ?_⟩ ?_
    · intro φ ρ W hφ hC hc hL
      have e5 : ρ (.tmp 5) = .pointer (some ⟨w.heap.size + 3, 0, none⟩) := hL 5 (by decide +kernel)
      have e23 : ρ (.tmp 23) = .agg #[.int .u64 (dgl (r) 0 : Nat), .int .u64 (dgl (r) 1 : Nat), .int .u64 (dgl (r) 2 : Nat), .int .u64 (dgl (r) 3 : Nat), .int .u64 (dgl (r) 4 : Nat), .int .u64 (dgl (r) 5 : Nat), .int .u64 (dgl (r) 6 : Nat), .int .u64 (dgl (r) 7 : Nat)] := hL 23 (by decide +kernel)
      have g : R2St (w.heap.size + 2) (w.heap.size + 3) (bif φ 2 then q else 0) 0 w W := hC.1 (φ 2) false rfl (by simp [hφ])
      have hz := g.ly.1
      have hzl := g.ly.2
      have hzf := g.fy
      have hne := HNE.out
      refine gUpon_of ((((((((W.setCell ⟨w.heap.size + 3, 0, none⟩ (.int .u64 (dgl (r) 0 : Nat))).setCell ⟨w.heap.size + 3, 1, none⟩ (.int .u64 (dgl (r) 1 : Nat))).setCell ⟨w.heap.size + 3, 2, none⟩ (.int .u64 (dgl (r) 2 : Nat))).setCell ⟨w.heap.size + 3, 3, none⟩ (.int .u64 (dgl (r) 3 : Nat))).setCell ⟨w.heap.size + 3, 4, none⟩ (.int .u64 (dgl (r) 4 : Nat))).setCell ⟨w.heap.size + 3, 5, none⟩ (.int .u64 (dgl (r) 5 : Nat))).setCell ⟨w.heap.size + 3, 6, none⟩ (.int .u64 (dgl (r) 6 : Nat))).setCell ⟨w.heap.size + 3, 7, none⟩ (.int .u64 (dgl (r) 7 : Nat))) ?_ (fun _ => ?_)
      · simp [go_sem, hc, e5, e23, hz, hzl, hzf, gUpon]
      refine ⟨⟨fun c e hc he => ?_, lies_ne hC.2.1 (by omega), lies_ne hC.2.2 (by omega)⟩, fun t => ?_⟩
      · have hc1 : c = (φ 2) := by rw [← hc]; simp
        have he1 : e = true := by rw [← he]; simp
        subst hc1
        subst he1
        exact g.set2 _
      refine (tbl_imp rfl (fun _ => val_imp) (tbl_imp rfl (fun _ => val_imp) (tbl_imp rfl (fun _ => val_imp) tbl_nil_imp)))
    refine kSt rfl (fun φ hφ => gStep_run rfl (gRun_const _ 6 (.inr rfl) rfl (fun w => rfl))) ?_
    exact kSt0
  · intro W hC
    refine gFi 22 rfl ?_
    rintro _ rfl
    refine gFi 23 rfl ?_
    rintro _ rfl
    refine gFiN rfl ?_
    refine gFiN rfl ?_
    refine gFi 6 rfl ?_
    rintro _ rfl
    refine gFi0 ?_
    simp only [List.drop_succ_cons, List.drop_zero, Act.put, List.setIfInBounds_toArray, List.set_cons_succ, List.set_cons_zero]
    have HS := hide (hC.1 true true rfl rfl)
    clear hC
    have hr1 := HS.out.lx.1
    have hrl1 := HS.out.lx.2
    have hrf1 := HS.out.fx
    have hr2 := HS.out.ly.1
    have hrl2 := HS.out.ly.2
    have hrf2 := HS.out.fy
    have HBE := hide HS.out.bel
    have HO1 := hide HS.out.o1
    have HO2 := hide HS.out.o2
    clear HS
    go_wp2
    exact bodyPost_ret (v := .tuple #[.agg #[.int .u64 (dgl (q) 0 : Nat), .int .u64 (dgl (q) 1 : Nat), .int .u64 (dgl (q) 2 : Nat), .int .u64 (dgl (q) 3 : Nat), .int .u64 (dgl (q) 4 : Nat), .int .u64 (dgl (q) 5 : Nat), .int .u64 (dgl (q) 6 : Nat), .int .u64 (dgl (q) 7 : Nat)], .agg #[.int .u64 (dgl (r) 0 : Nat), .int .u64 (dgl (r) 1 : Nat), .int .u64 (dgl (r) 2 : Nat), .int .u64 (dgl (r) 3 : Nat), .int .u64 (dgl (r) 4 : Nat), .int .u64 (dgl (r) 5 : Nat), .int .u64 (dgl (r) 6 : Nat), .int .u64 (dgl (r) 7 : Nat)], .int .i64 0]) (by simp [results, Tryd.results24, go_sem, hr1, hrl1, hr2, hrl2]) rfl ⟨rfl, HBE.out⟩
    

theorem divide_err (n d : Nat) (hn : n < QQ) (hd : d < QQ) (hm : mayN n d ≠ 0) (w : World) :
    Calls Tryd.prog 24 #[.agg #[.int .u64 (dgl (n) 0 : Nat), .int .u64 (dgl (n) 1 : Nat), .int .u64 (dgl (n) 2 : Nat), .int .u64 (dgl (n) 3 : Nat), .int .u64 (dgl (n) 4 : Nat), .int .u64 (dgl (n) 5 : Nat), .int .u64 (dgl (n) 6 : Nat), .int .u64 (dgl (n) 7 : Nat)], .agg #[.int .u64 (dgl (d) 0 : Nat), .int .u64 (dgl (d) 1 : Nat), .int .u64 (dgl (d) 2 : Nat), .int .u64 (dgl (d) 3 : Nat), .int .u64 (dgl (d) 4 : Nat), .int .u64 (dgl (d) 5 : Nat), .int .u64 (dgl (d) 6 : Nat), .int .u64 (dgl (d) 7 : Nat)]] w fun e w' => e = .returned (.tuple #[.agg #[.int .u64 0, .int .u64 0, .int .u64 0, .int .u64 0, .int .u64 0, .int .u64 0, .int .u64 0, .int .u64 0], .agg #[.int .u64 0, .int .u64 0, .int .u64 0, .int .u64 0, .int .u64 0, .int .u64 0, .int .u64 0, .int .u64 0], .int .i64 ((mayN n d : Nat) : Int)]) ∧ Below w.heap.size w w' :=
  pdiv_E n d _ (by rw [beq_eq_false_iff_ne]; omega) (fun w => may_any n d hn hd w) w
theorem divide_ok (n d : Nat) (hn : n < QQ) (hd : d < QQ) (hm : mayN n d = 0) (w : World) :
    Calls Tryd.prog 24 #[.agg #[.int .u64 (dgl (n) 0 : Nat), .int .u64 (dgl (n) 1 : Nat), .int .u64 (dgl (n) 2 : Nat), .int .u64 (dgl (n) 3 : Nat), .int .u64 (dgl (n) 4 : Nat), .int .u64 (dgl (n) 5 : Nat), .int .u64 (dgl (n) 6 : Nat), .int .u64 (dgl (n) 7 : Nat)], .agg #[.int .u64 (dgl (d) 0 : Nat), .int .u64 (dgl (d) 1 : Nat), .int .u64 (dgl (d) 2 : Nat), .int .u64 (dgl (d) 3 : Nat), .int .u64 (dgl (d) 4 : Nat), .int .u64 (dgl (d) 5 : Nat), .int .u64 (dgl (d) 6 : Nat), .int .u64 (dgl (d) 7 : Nat)]] w fun e w' => e = .returned (.tuple #[.agg #[.int .u64 (dgl (n / d) 0 : Nat), .int .u64 (dgl (n / d) 1 : Nat), .int .u64 (dgl (n / d) 2 : Nat), .int .u64 (dgl (n / d) 3 : Nat), .int .u64 (dgl (n / d) 4 : Nat), .int .u64 (dgl (n / d) 5 : Nat), .int .u64 (dgl (n / d) 6 : Nat), .int .u64 (dgl (n / d) 7 : Nat)], .agg #[.int .u64 (dgl (n % d) 0 : Nat), .int .u64 (dgl (n % d) 1 : Nat), .int .u64 (dgl (n % d) 2 : Nat), .int .u64 (dgl (n % d) 3 : Nat), .int .u64 (dgl (n % d) 4 : Nat), .int .u64 (dgl (n % d) 5 : Nat), .int .u64 (dgl (n % d) 6 : Nat), .int .u64 (dgl (n % d) 7 : Nat)], .int .i64 0]) ∧ Below w.heap.size w w' :=
  pdiv_Y n d hn hm (fun w => by have h := may_any n d hn hd w; rw [hm] at h; exact h) w

end Go.Proofs.YtbngaajhdaciaaaDoor

/- Contracts: radicandlaw11's example, and what holds of a quotient and a remainder. -/
set_option linter.unusedVariables false
set_option linter.unusedSimpArgs false
set_option maxRecDepth 8000
namespace Go.Proofs.YtbngaajhdaciaaaDoor
open Go.RowKit Plain

theorem dgl_high0 {x i : Nat} (hx : x < 18446744073709551616) (hi : 0 < i) : dgl x i = 0 := by
  rw [dgl_lw]
  have h : x < LW ^ i := by
    have h1 : LW ^ 1 ≤ LW ^ i := Nat.pow_le_pow_right lw_pos hi
    have h2 : LW ^ 1 = 18446744073709551616 := by rw [Nat.pow_one]; rfl
    omega
  rw [Nat.div_eq_of_lt h, Nat.zero_mod]
theorem dgl_low0 {x : Nat} (hx : x < 18446744073709551616) : dgl x 0 = x := by
  rw [dgl_lw, Nat.pow_zero, Nat.div_one]
  exact Nat.mod_eq_of_lt hx
theorem w8_small (x : Nat) (hx : x < 18446744073709551616) : (#[.int .u64 (dgl (x) 0 : Nat), .int .u64 (dgl (x) 1 : Nat), .int .u64 (dgl (x) 2 : Nat), .int .u64 (dgl (x) 3 : Nat), .int .u64 (dgl (x) 4 : Nat), .int .u64 (dgl (x) 5 : Nat), .int .u64 (dgl (x) 6 : Nat), .int .u64 (dgl (x) 7 : Nat)] : Array Value) = #[.int .u64 (x : Nat), .int .u64 0, .int .u64 0, .int .u64 0, .int .u64 0, .int .u64 0, .int .u64 0, .int .u64 0] := by
  rw [dgl_low0 hx, dgl_high0 hx (show 0 < 1 by decide), dgl_high0 hx (show 0 < 2 by decide), dgl_high0 hx (show 0 < 3 by decide), dgl_high0 hx (show 0 < 4 by decide), dgl_high0 hx (show 0 < 5 by decide), dgl_high0 hx (show 0 < 6 by decide), dgl_high0 hx (show 0 < 7 by decide)]
  rfl
theorem r2_put (w W : World) (x y : Nat) (hb : Below w.heap.size w W) (e1 e2 : TypeId) : R2St W.heap.size (W.heap.size + 1) x y w ((W.alloc (.cells #[.int .u64 (dgl (x) 0 : Nat), .int .u64 (dgl (x) 1 : Nat), .int .u64 (dgl (x) 2 : Nat), .int .u64 (dgl (x) 3 : Nat), .int .u64 (dgl (x) 4 : Nat), .int .u64 (dgl (x) 5 : Nat), .int .u64 (dgl (x) 6 : Nat), .int .u64 (dgl (x) 7 : Nat)] e1)).alloc (.cells #[.int .u64 (dgl (y) 0 : Nat), .int .u64 (dgl (y) 1 : Nat), .int .u64 (dgl (y) 2 : Nat), .int .u64 (dgl (y) 3 : Nat), .int .u64 (dgl (y) 4 : Nat), .int .u64 (dgl (y) 5 : Nat), .int .u64 (dgl (y) 6 : Nat), .int .u64 (dgl (y) 7 : Nat)] e2)) := by
  have h1 := liesF_new W (dgl x) e1
  have h2 := liesF_new (W.alloc (.cells #[.int .u64 (dgl (x) 0 : Nat), .int .u64 (dgl (x) 1 : Nat), .int .u64 (dgl (x) 2 : Nat), .int .u64 (dgl (x) 3 : Nat), .int .u64 (dgl (x) 4 : Nat), .int .u64 (dgl (x) 5 : Nat), .int .u64 (dgl (x) 6 : Nat), .int .u64 (dgl (x) 7 : Nat)] e1)) (dgl y) e2
  rw [World.size_alloc] at h2
  exact ⟨h1.alloc _, fun i => by simp [go_sem], h2, fun i => by simp [go_sem], below_trans (below_trans hb (below_allocs _ _)) (below_allocs _ _), hb.size, by omega⟩
/-- A wide is a small number, written out. -/
theorem wide_lit (x k : Nat) (hx : x < QQ) (hk : k < 18446744073709551616) (w : World) : (Op.equalIn 10000 24 (.agg #[.int .u64 (dgl (x) 0 : Nat), .int .u64 (dgl (x) 1 : Nat), .int .u64 (dgl (x) 2 : Nat), .int .u64 (dgl (x) 3 : Nat), .int .u64 (dgl (x) 4 : Nat), .int .u64 (dgl (x) 5 : Nat), .int .u64 (dgl (x) 6 : Nat), .int .u64 (dgl (x) 7 : Nat)]) (.agg #[.int .u64 (k : Nat), .int .u64 0, .int .u64 0, .int .u64 0, .int .u64 0, .int .u64 0, .int .u64 0, .int .u64 0])).run Tryd.prog w = .ok (decide (x = k)) w := by
  rw [← w8_small k hk]
  exact wide_eqb hx (ll_lt_qq hk) w

set_option maxHeartbeats 2000000 in
theorem holds11_E (n d : Nat) (m : Int) (hm : (m == 0) = false) (hz : ∀ w, (Op.equalIn 10000 24 (.agg #[.int .u64 (dgl (0) 0 : Nat), .int .u64 (dgl (0) 1 : Nat), .int .u64 (dgl (0) 2 : Nat), .int .u64 (dgl (0) 3 : Nat), .int .u64 (dgl (0) 4 : Nat), .int .u64 (dgl (0) 5 : Nat), .int .u64 (dgl (0) 6 : Nat), .int .u64 (dgl (0) 7 : Nat)]) (.agg #[.int .u64 0, .int .u64 0, .int .u64 0, .int .u64 0, .int .u64 0, .int .u64 0, .int .u64 0, .int .u64 0])).run Tryd.prog w = .ok true w)
    (HM : Hid (∀ w, Calls Tryd.prog 11 #[.agg #[.int .u64 (dgl (n) 0 : Nat), .int .u64 (dgl (n) 1 : Nat), .int .u64 (dgl (n) 2 : Nat), .int .u64 (dgl (n) 3 : Nat), .int .u64 (dgl (n) 4 : Nat), .int .u64 (dgl (n) 5 : Nat), .int .u64 (dgl (n) 6 : Nat), .int .u64 (dgl (n) 7 : Nat)], .agg #[.int .u64 (dgl (d) 0 : Nat), .int .u64 (dgl (d) 1 : Nat), .int .u64 (dgl (d) 2 : Nat), .int .u64 (dgl (d) 3 : Nat), .int .u64 (dgl (d) 4 : Nat), .int .u64 (dgl (d) 5 : Nat), .int .u64 (dgl (d) 6 : Nat), .int .u64 (dgl (d) 7 : Nat)]] w fun e w' => e = .returned (.int .i64 m) ∧ Below w.heap.size w w')) (w : World) :
    Calls Tryd.prog 8 #[.agg #[.int .u64 (dgl (n) 0 : Nat), .int .u64 (dgl (n) 1 : Nat), .int .u64 (dgl (n) 2 : Nat), .int .u64 (dgl (n) 3 : Nat), .int .u64 (dgl (n) 4 : Nat), .int .u64 (dgl (n) 5 : Nat), .int .u64 (dgl (n) 6 : Nat), .int .u64 (dgl (n) 7 : Nat)], .agg #[.int .u64 (dgl (d) 0 : Nat), .int .u64 (dgl (d) 1 : Nat), .int .u64 (dgl (d) 2 : Nat), .int .u64 (dgl (d) 3 : Nat), .int .u64 (dgl (d) 4 : Nat), .int .u64 (dgl (d) 5 : Nat), .int .u64 (dgl (d) 6 : Nat), .int .u64 (dgl (d) 7 : Nat)], .agg #[.int .u64 (dgl (0) 0 : Nat), .int .u64 (dgl (0) 1 : Nat), .int .u64 (dgl (0) 2 : Nat), .int .u64 (dgl (0) 3 : Nat), .int .u64 (dgl (0) 4 : Nat), .int .u64 (dgl (0) 5 : Nat), .int .u64 (dgl (0) 6 : Nat), .int .u64 (dgl (0) 7 : Nat)], .agg #[.int .u64 (dgl (0) 0 : Nat), .int .u64 (dgl (0) 1 : Nat), .int .u64 (dgl (0) 2 : Nat), .int .u64 (dgl (0) 3 : Nat), .int .u64 (dgl (0) 4 : Nat), .int .u64 (dgl (0) 5 : Nat), .int .u64 (dgl (0) 6 : Nat), .int .u64 (dgl (0) 7 : Nat)], .int .i64 m] w fun e w' => e = .returned (.bool true) ∧ Below w.heap.size w w' := by
  have HS : Hid (TwSt n d w ((((w.alloc (.cells #[.int .u64 (dgl (n) 0 : Nat), .int .u64 (dgl (n) 1 : Nat), .int .u64 (dgl (n) 2 : Nat), .int .u64 (dgl (n) 3 : Nat), .int .u64 (dgl (n) 4 : Nat), .int .u64 (dgl (n) 5 : Nat), .int .u64 (dgl (n) 6 : Nat), .int .u64 (dgl (n) 7 : Nat)] 24)).alloc (.cells #[.int .u64 (dgl (d) 0 : Nat), .int .u64 (dgl (d) 1 : Nat), .int .u64 (dgl (d) 2 : Nat), .int .u64 (dgl (d) 3 : Nat), .int .u64 (dgl (d) 4 : Nat), .int .u64 (dgl (d) 5 : Nat), .int .u64 (dgl (d) 6 : Nat), .int .u64 (dgl (d) 7 : Nat)] 24)).alloc (.cells #[.int .u64 (dgl (0) 0 : Nat), .int .u64 (dgl (0) 1 : Nat), .int .u64 (dgl (0) 2 : Nat), .int .u64 (dgl (0) 3 : Nat), .int .u64 (dgl (0) 4 : Nat), .int .u64 (dgl (0) 5 : Nat), .int .u64 (dgl (0) 6 : Nat), .int .u64 (dgl (0) 7 : Nat)] 24)).alloc (.cells #[.int .u64 (dgl (0) 0 : Nat), .int .u64 (dgl (0) 1 : Nat), .int .u64 (dgl (0) 2 : Nat), .int .u64 (dgl (0) 3 : Nat), .int .u64 (dgl (0) 4 : Nat), .int .u64 (dgl (0) 5 : Nat), .int .u64 (dgl (0) 6 : Nat), .int .u64 (dgl (0) 7 : Nat)] 24)) ∧
      R2St (w.heap.size + 2) (w.heap.size + 3) 0 0 w ((((w.alloc (.cells #[.int .u64 (dgl (n) 0 : Nat), .int .u64 (dgl (n) 1 : Nat), .int .u64 (dgl (n) 2 : Nat), .int .u64 (dgl (n) 3 : Nat), .int .u64 (dgl (n) 4 : Nat), .int .u64 (dgl (n) 5 : Nat), .int .u64 (dgl (n) 6 : Nat), .int .u64 (dgl (n) 7 : Nat)] 24)).alloc (.cells #[.int .u64 (dgl (d) 0 : Nat), .int .u64 (dgl (d) 1 : Nat), .int .u64 (dgl (d) 2 : Nat), .int .u64 (dgl (d) 3 : Nat), .int .u64 (dgl (d) 4 : Nat), .int .u64 (dgl (d) 5 : Nat), .int .u64 (dgl (d) 6 : Nat), .int .u64 (dgl (d) 7 : Nat)] 24)).alloc (.cells #[.int .u64 (dgl (0) 0 : Nat), .int .u64 (dgl (0) 1 : Nat), .int .u64 (dgl (0) 2 : Nat), .int .u64 (dgl (0) 3 : Nat), .int .u64 (dgl (0) 4 : Nat), .int .u64 (dgl (0) 5 : Nat), .int .u64 (dgl (0) 6 : Nat), .int .u64 (dgl (0) 7 : Nat)] 24)).alloc (.cells #[.int .u64 (dgl (0) 0 : Nat), .int .u64 (dgl (0) 1 : Nat), .int .u64 (dgl (0) 2 : Nat), .int .u64 (dgl (0) 3 : Nat), .int .u64 (dgl (0) 4 : Nat), .int .u64 (dgl (0) 5 : Nat), .int .u64 (dgl (0) 6 : Nat), .int .u64 (dgl (0) 7 : Nat)] 24))) := by
    have h := twSt_start n d w 24 24
    have h2 := r2_put w _ 0 0 h.bel 24 24
    rw [World.size_alloc, World.size_alloc] at h2
    exact ⟨(h.below (below_allocs _ _)).below (below_allocs _ _), h2⟩
  go_enter Tryd.func8, Tryd.ntmps8
  go_upto_region 1 with fail
  refine wp_gen (fun W => TwSt n d w W ∧ R2St (w.heap.size + 2) (w.heap.size + 3) 0 0 w W) HS.out ?_
  clear HS
  rintro W1 h1
  have HS := hide h1
  clear h1
  have hca := HS.out.1.la.1
  have hcb := HS.out.1.lb.1
  go_wp2_with fail
  refine (HM.out _).mono ?_
  rintro e' w1 ⟨rfl, hb1⟩
  replace HS := hide (HS.out.2.below hb1)
  clear hb1 hca hcb
  have hl1 := HS.out.lx.1
  have hl2 := HS.out.ly.1
  have HB := hide HS.out.bel
  clear HS
  go_wp2
  go_ret
  exact ⟨rfl, HB.out⟩

set_option maxHeartbeats 2000000 in
theorem holds11_Y (n d q r : Nat)
    (HM : Hid (∀ w, Calls Tryd.prog 11 #[.agg #[.int .u64 (dgl (n) 0 : Nat), .int .u64 (dgl (n) 1 : Nat), .int .u64 (dgl (n) 2 : Nat), .int .u64 (dgl (n) 3 : Nat), .int .u64 (dgl (n) 4 : Nat), .int .u64 (dgl (n) 5 : Nat), .int .u64 (dgl (n) 6 : Nat), .int .u64 (dgl (n) 7 : Nat)], .agg #[.int .u64 (dgl (d) 0 : Nat), .int .u64 (dgl (d) 1 : Nat), .int .u64 (dgl (d) 2 : Nat), .int .u64 (dgl (d) 3 : Nat), .int .u64 (dgl (d) 4 : Nat), .int .u64 (dgl (d) 5 : Nat), .int .u64 (dgl (d) 6 : Nat), .int .u64 (dgl (d) 7 : Nat)]] w fun e w' => e = .returned (.int .i64 0) ∧ Below w.heap.size w w'))
    (HD : Hid (∀ w, Calls Tryd.prog 35 #[.agg #[.int .u64 (dgl (n) 0 : Nat), .int .u64 (dgl (n) 1 : Nat), .int .u64 (dgl (n) 2 : Nat), .int .u64 (dgl (n) 3 : Nat), .int .u64 (dgl (n) 4 : Nat), .int .u64 (dgl (n) 5 : Nat), .int .u64 (dgl (n) 6 : Nat), .int .u64 (dgl (n) 7 : Nat)], .agg #[.int .u64 (dgl (d) 0 : Nat), .int .u64 (dgl (d) 1 : Nat), .int .u64 (dgl (d) 2 : Nat), .int .u64 (dgl (d) 3 : Nat), .int .u64 (dgl (d) 4 : Nat), .int .u64 (dgl (d) 5 : Nat), .int .u64 (dgl (d) 6 : Nat), .int .u64 (dgl (d) 7 : Nat)]] w fun e w' => e = .returned (.tuple #[.agg #[.int .u64 (dgl (q) 0 : Nat), .int .u64 (dgl (q) 1 : Nat), .int .u64 (dgl (q) 2 : Nat), .int .u64 (dgl (q) 3 : Nat), .int .u64 (dgl (q) 4 : Nat), .int .u64 (dgl (q) 5 : Nat), .int .u64 (dgl (q) 6 : Nat), .int .u64 (dgl (q) 7 : Nat)], .agg #[.int .u64 (dgl (r) 0 : Nat), .int .u64 (dgl (r) 1 : Nat), .int .u64 (dgl (r) 2 : Nat), .int .u64 (dgl (r) 3 : Nat), .int .u64 (dgl (r) 4 : Nat), .int .u64 (dgl (r) 5 : Nat), .int .u64 (dgl (r) 6 : Nat), .int .u64 (dgl (r) 7 : Nat)]]) ∧ Below w.heap.size w w')) (w : World) :
    Calls Tryd.prog 8 #[.agg #[.int .u64 (dgl (n) 0 : Nat), .int .u64 (dgl (n) 1 : Nat), .int .u64 (dgl (n) 2 : Nat), .int .u64 (dgl (n) 3 : Nat), .int .u64 (dgl (n) 4 : Nat), .int .u64 (dgl (n) 5 : Nat), .int .u64 (dgl (n) 6 : Nat), .int .u64 (dgl (n) 7 : Nat)], .agg #[.int .u64 (dgl (d) 0 : Nat), .int .u64 (dgl (d) 1 : Nat), .int .u64 (dgl (d) 2 : Nat), .int .u64 (dgl (d) 3 : Nat), .int .u64 (dgl (d) 4 : Nat), .int .u64 (dgl (d) 5 : Nat), .int .u64 (dgl (d) 6 : Nat), .int .u64 (dgl (d) 7 : Nat)], .agg #[.int .u64 (dgl (q) 0 : Nat), .int .u64 (dgl (q) 1 : Nat), .int .u64 (dgl (q) 2 : Nat), .int .u64 (dgl (q) 3 : Nat), .int .u64 (dgl (q) 4 : Nat), .int .u64 (dgl (q) 5 : Nat), .int .u64 (dgl (q) 6 : Nat), .int .u64 (dgl (q) 7 : Nat)], .agg #[.int .u64 (dgl (r) 0 : Nat), .int .u64 (dgl (r) 1 : Nat), .int .u64 (dgl (r) 2 : Nat), .int .u64 (dgl (r) 3 : Nat), .int .u64 (dgl (r) 4 : Nat), .int .u64 (dgl (r) 5 : Nat), .int .u64 (dgl (r) 6 : Nat), .int .u64 (dgl (r) 7 : Nat)], .int .i64 0] w fun e w' => e = .returned (.bool true) ∧ Below w.heap.size w w' := by
  have hsq := fun w => wide_sameF (dgl q) w
  have hsr := fun w => wide_sameF (dgl r) w
  have HS : Hid (TwSt n d w ((((w.alloc (.cells #[.int .u64 (dgl (n) 0 : Nat), .int .u64 (dgl (n) 1 : Nat), .int .u64 (dgl (n) 2 : Nat), .int .u64 (dgl (n) 3 : Nat), .int .u64 (dgl (n) 4 : Nat), .int .u64 (dgl (n) 5 : Nat), .int .u64 (dgl (n) 6 : Nat), .int .u64 (dgl (n) 7 : Nat)] 24)).alloc (.cells #[.int .u64 (dgl (d) 0 : Nat), .int .u64 (dgl (d) 1 : Nat), .int .u64 (dgl (d) 2 : Nat), .int .u64 (dgl (d) 3 : Nat), .int .u64 (dgl (d) 4 : Nat), .int .u64 (dgl (d) 5 : Nat), .int .u64 (dgl (d) 6 : Nat), .int .u64 (dgl (d) 7 : Nat)] 24)).alloc (.cells #[.int .u64 (dgl (q) 0 : Nat), .int .u64 (dgl (q) 1 : Nat), .int .u64 (dgl (q) 2 : Nat), .int .u64 (dgl (q) 3 : Nat), .int .u64 (dgl (q) 4 : Nat), .int .u64 (dgl (q) 5 : Nat), .int .u64 (dgl (q) 6 : Nat), .int .u64 (dgl (q) 7 : Nat)] 24)).alloc (.cells #[.int .u64 (dgl (r) 0 : Nat), .int .u64 (dgl (r) 1 : Nat), .int .u64 (dgl (r) 2 : Nat), .int .u64 (dgl (r) 3 : Nat), .int .u64 (dgl (r) 4 : Nat), .int .u64 (dgl (r) 5 : Nat), .int .u64 (dgl (r) 6 : Nat), .int .u64 (dgl (r) 7 : Nat)] 24)) ∧
      R2St (w.heap.size + 2) (w.heap.size + 3) q r w ((((w.alloc (.cells #[.int .u64 (dgl (n) 0 : Nat), .int .u64 (dgl (n) 1 : Nat), .int .u64 (dgl (n) 2 : Nat), .int .u64 (dgl (n) 3 : Nat), .int .u64 (dgl (n) 4 : Nat), .int .u64 (dgl (n) 5 : Nat), .int .u64 (dgl (n) 6 : Nat), .int .u64 (dgl (n) 7 : Nat)] 24)).alloc (.cells #[.int .u64 (dgl (d) 0 : Nat), .int .u64 (dgl (d) 1 : Nat), .int .u64 (dgl (d) 2 : Nat), .int .u64 (dgl (d) 3 : Nat), .int .u64 (dgl (d) 4 : Nat), .int .u64 (dgl (d) 5 : Nat), .int .u64 (dgl (d) 6 : Nat), .int .u64 (dgl (d) 7 : Nat)] 24)).alloc (.cells #[.int .u64 (dgl (q) 0 : Nat), .int .u64 (dgl (q) 1 : Nat), .int .u64 (dgl (q) 2 : Nat), .int .u64 (dgl (q) 3 : Nat), .int .u64 (dgl (q) 4 : Nat), .int .u64 (dgl (q) 5 : Nat), .int .u64 (dgl (q) 6 : Nat), .int .u64 (dgl (q) 7 : Nat)] 24)).alloc (.cells #[.int .u64 (dgl (r) 0 : Nat), .int .u64 (dgl (r) 1 : Nat), .int .u64 (dgl (r) 2 : Nat), .int .u64 (dgl (r) 3 : Nat), .int .u64 (dgl (r) 4 : Nat), .int .u64 (dgl (r) 5 : Nat), .int .u64 (dgl (r) 6 : Nat), .int .u64 (dgl (r) 7 : Nat)] 24))) := by
    have h := twSt_start n d w 24 24
    have h2 := r2_put w _ q r h.bel 24 24
    rw [World.size_alloc, World.size_alloc] at h2
    exact ⟨(h.below (below_allocs _ _)).below (below_allocs _ _), h2⟩
  go_enter Tryd.func8, Tryd.ntmps8
  go_upto_region 1 with fail
  refine wp_gen (fun W => TwSt n d w W ∧ R2St (w.heap.size + 2) (w.heap.size + 3) q r w W) HS.out ?_
  clear HS
  rintro W1 h1
  have HS := hide h1
  clear h1
  have hca := HS.out.1.la.1
  have hcb := HS.out.1.lb.1
  go_wp2_with fail
  refine (HM.out _).mono ?_
  rintro e' w1 ⟨rfl, hb1⟩
  replace HS := hide (show TwSt n d w w1 ∧ R2St (w.heap.size + 2) (w.heap.size + 3) q r w w1 from ⟨HS.out.1.below hb1, HS.out.2.below hb1⟩)
  clear hb1 hca hcb
  have hca := HS.out.1.la.1
  have hcb := HS.out.1.lb.1
  go_wp2_with fail
  refine (HD.out _).mono ?_
  rintro e' w2 ⟨rfl, hb2⟩
  replace HS := hide (HS.out.2.below hb2)
  clear hb2 hca hcb
  go_upto_region 5 with fail
  have hbw := below_trans (below_allocs w2 (.cells #[.int .u64 (dgl (q) 0 : Nat), .int .u64 (dgl (q) 1 : Nat), .int .u64 (dgl (q) 2 : Nat), .int .u64 (dgl (q) 3 : Nat), .int .u64 (dgl (q) 4 : Nat), .int .u64 (dgl (q) 5 : Nat), .int .u64 (dgl (q) 6 : Nat), .int .u64 (dgl (q) 7 : Nat)] 24)) (below_allocs _ (.cells #[.int .u64 (dgl (r) 0 : Nat), .int .u64 (dgl (r) 1 : Nat), .int .u64 (dgl (r) 2 : Nat), .int .u64 (dgl (r) 3 : Nat), .int .u64 (dgl (r) 4 : Nat), .int .u64 (dgl (r) 5 : Nat), .int .u64 (dgl (r) 6 : Nat), .int .u64 (dgl (r) 7 : Nat)] 24))
  refine wp_gen (fun W => R2St (w.heap.size + 2) (w.heap.size + 3) q r w W ∧ R2St w2.heap.size (w2.heap.size + 1) q r w W) ⟨HS.out.below hbw, r2_put w w2 q r HS.out.bel _ _⟩ ?_
  clear HS hbw
  rintro W5 h5
  have hl1 := h5.1.lx.1
  have hl2 := h5.1.ly.1
  have hm1 := h5.2.lx.1
  have hm2 := h5.2.ly.1
  have HB := hide h5.2.bel
  clear h5
  go_wp2
  go_ret
  exact ⟨rfl, HB.out⟩

theorem holds11_any (n d : Nat) (hn : n < QQ) (hd : d < QQ) (x y : Nat) (hx : x = if mayN n d = 0 then n / d else 0) (hy : y = if mayN n d = 0 then n % d else 0) (w : World) :
    Calls Tryd.prog 8 #[.agg #[.int .u64 (dgl (n) 0 : Nat), .int .u64 (dgl (n) 1 : Nat), .int .u64 (dgl (n) 2 : Nat), .int .u64 (dgl (n) 3 : Nat), .int .u64 (dgl (n) 4 : Nat), .int .u64 (dgl (n) 5 : Nat), .int .u64 (dgl (n) 6 : Nat), .int .u64 (dgl (n) 7 : Nat)], .agg #[.int .u64 (dgl (d) 0 : Nat), .int .u64 (dgl (d) 1 : Nat), .int .u64 (dgl (d) 2 : Nat), .int .u64 (dgl (d) 3 : Nat), .int .u64 (dgl (d) 4 : Nat), .int .u64 (dgl (d) 5 : Nat), .int .u64 (dgl (d) 6 : Nat), .int .u64 (dgl (d) 7 : Nat)], .agg #[.int .u64 (dgl (x) 0 : Nat), .int .u64 (dgl (x) 1 : Nat), .int .u64 (dgl (x) 2 : Nat), .int .u64 (dgl (x) 3 : Nat), .int .u64 (dgl (x) 4 : Nat), .int .u64 (dgl (x) 5 : Nat), .int .u64 (dgl (x) 6 : Nat), .int .u64 (dgl (x) 7 : Nat)], .agg #[.int .u64 (dgl (y) 0 : Nat), .int .u64 (dgl (y) 1 : Nat), .int .u64 (dgl (y) 2 : Nat), .int .u64 (dgl (y) 3 : Nat), .int .u64 (dgl (y) 4 : Nat), .int .u64 (dgl (y) 5 : Nat), .int .u64 (dgl (y) 6 : Nat), .int .u64 (dgl (y) 7 : Nat)], .int .i64 ((mayN n d : Nat) : Int)] w fun e w' => e = .returned (.bool true) ∧ Below w.heap.size w w' := by
  by_cases hm : mayN n d = 0
  · rw [if_pos hm] at hx hy
    rw [hx, hy]
    have HM := fun w => rmay_any n d hn hd w
    rw [hm] at HM ⊢
    have hz := mayN_zero hm
    exact holds11_Y n d _ _ HM (fun w => refDivide_any n d hn hd hz.1 (Nat.lt_of_lt_of_le (may_quo hm) (Nat.pow_le_pow_right (by decide) (by decide))) w) w
  · rw [if_neg hm] at hx hy
    rw [hx, hy]
    refine holds11_E n d _ (by rw [beq_eq_false_iff_ne]; omega) (fun w => ?_) (fun w => rmay_any n d hn hd w) w
    have := wide_eqz (show 0 < QQ by decide +kernel) w
    rw [decide_eq_true rfl] at this
    exact this
theorem w8_zero : (#[.int .u64 (dgl (0) 0 : Nat), .int .u64 (dgl (0) 1 : Nat), .int .u64 (dgl (0) 2 : Nat), .int .u64 (dgl (0) 3 : Nat), .int .u64 (dgl (0) 4 : Nat), .int .u64 (dgl (0) 5 : Nat), .int .u64 (dgl (0) 6 : Nat), .int .u64 (dgl (0) 7 : Nat)] : Array Value) = #[.int .u64 0, .int .u64 0, .int .u64 0, .int .u64 0, .int .u64 0, .int .u64 0, .int .u64 0, .int .u64 0] := by
  rw [dgl_zero, dgl_zero, dgl_zero, dgl_zero, dgl_zero, dgl_zero, dgl_zero, dgl_zero]
  rfl
theorem divide_any (n d : Nat) (hn : n < QQ) (hd : d < QQ) (x y : Nat) (hx : x = if mayN n d = 0 then n / d else 0) (hy : y = if mayN n d = 0 then n % d else 0) (w : World) :
    Calls Tryd.prog 24 #[.agg #[.int .u64 (dgl (n) 0 : Nat), .int .u64 (dgl (n) 1 : Nat), .int .u64 (dgl (n) 2 : Nat), .int .u64 (dgl (n) 3 : Nat), .int .u64 (dgl (n) 4 : Nat), .int .u64 (dgl (n) 5 : Nat), .int .u64 (dgl (n) 6 : Nat), .int .u64 (dgl (n) 7 : Nat)], .agg #[.int .u64 (dgl (d) 0 : Nat), .int .u64 (dgl (d) 1 : Nat), .int .u64 (dgl (d) 2 : Nat), .int .u64 (dgl (d) 3 : Nat), .int .u64 (dgl (d) 4 : Nat), .int .u64 (dgl (d) 5 : Nat), .int .u64 (dgl (d) 6 : Nat), .int .u64 (dgl (d) 7 : Nat)]] w fun e w' => e = .returned (.tuple #[.agg #[.int .u64 (dgl (x) 0 : Nat), .int .u64 (dgl (x) 1 : Nat), .int .u64 (dgl (x) 2 : Nat), .int .u64 (dgl (x) 3 : Nat), .int .u64 (dgl (x) 4 : Nat), .int .u64 (dgl (x) 5 : Nat), .int .u64 (dgl (x) 6 : Nat), .int .u64 (dgl (x) 7 : Nat)], .agg #[.int .u64 (dgl (y) 0 : Nat), .int .u64 (dgl (y) 1 : Nat), .int .u64 (dgl (y) 2 : Nat), .int .u64 (dgl (y) 3 : Nat), .int .u64 (dgl (y) 4 : Nat), .int .u64 (dgl (y) 5 : Nat), .int .u64 (dgl (y) 6 : Nat), .int .u64 (dgl (y) 7 : Nat)], .int .i64 ((mayN n d : Nat) : Int)]) ∧ Below w.heap.size w w' := by
  by_cases hm : mayN n d = 0
  · rw [if_pos hm] at hx hy
    rw [hx, hy]
    have h := divide_ok n d hn hd hm w
    rw [hm]
    exact h
  · rw [if_neg hm] at hx hy
    rw [hx, hy, w8_zero]
    exact divide_err n d hn hd hm w

end Go.Proofs.YtbngaajhdaciaaaDoor

/- Contracts: radix2.Digits. -/
set_option linter.unusedVariables false
set_option linter.unusedSimpArgs false
set_option maxRecDepth 8000
namespace Go.Proofs.YtbngaajhdaciaaaDoor
open Go.RowKit Plain

/-- A row of the call's own stays, where its block does. -/
theorem owns_of_block {w w' : World} {base : Nat} {e : TypeId} {size n : Nat} {v : Value} {xs : List Value} (h : w.ownsRow base e size v n xs) (hb : ∀ g, v.ownBlock = some g → w'.heap[g]? = w.heap[g]?) : w'.ownsRow base e size v n xs := by
  refine ⟨h.1, ?_⟩
  rcases h.2 with hn | ⟨g, cap, cur, rfl, hb1, hgg, rest⟩
  · exact .inl hn
  · exact .inr ⟨g, cap, cur, rfl, hb1, (hb g rfl).trans hgg, rest⟩
/-- Below base only the block p may have changed. -/
structure But (p base : Nat) (w w' : World) : Prop where
  os : w'.os = w.os
  tape : w'.tape = w.tape
  output : w'.output = w.output
  size : w.heap.size ≤ w'.heap.size
  block : ∀ k, k < base → k ≠ p → w'.heap[k]? = w.heap[k]?

end Go.Proofs.YtbngaajhdaciaaaDoor

