/- Contracts and laws: RomC, RomD, RomE, RomN, RomF, RomG. -/
import Derived.Test.YteocibahclpegaaPartAK
import Derived.Test.YteocibahclpegaaPartAQ
import Derived.Test.YteocibahclpegaaPartAN
import Derived.Test.YteocibahclpegaaPartAO
import Derived.Test.YteocibahclpegaaPartAP
import Derived.Test.YteocibahclpegaaPartAI
/- Contracts: a rom in its block; rom.each, rom.at, fill, Do, Recip, Root, Made. -/
set_option linter.unusedVariables false
set_option linter.unusedSimpArgs false
set_option maxRecDepth 8000
namespace Go.Proofs.Yteocibahclpegaa
open Go.RowKit Plain

/-- A rom in block b: the three words that are turned, the two tables; only that block has changed since w. -/
structure RomG (b : Nat) (x0 x1 x3 : Int) (g h : Nat → Nat) (w W : World) : Prop where
  c0 : W.cell? ⟨b, 0, none⟩ = some (.int .u32 x0)
  c1 : W.cell? ⟨b, 1, none⟩ = some (.int .i32 x1)
  c3 : W.cell? ⟨b, 3, none⟩ = some (.int .i64 x3)
  r : ∀ i, i < 64 → W.cell? ⟨b, 4 + i, none⟩ = some (.int .u64 (g i : Nat))
  s : ∀ i, i < 96 → W.cell? ⟨b, 68 + i, none⟩ = some (.int .u64 (h i : Nat))
  f : ∀ i, W.frozen? ⟨b, i, none⟩ = false
  lt : b < W.heap.size
  on : Only2 b b w W
section
variable {b : Nat} {x0 x1 x3 : Int} {g h : Nat → Nat} {w W W' : World}
theorem RomG.below (H : RomG b x0 x1 x3 g h w W) (hb : Below W.heap.size W W') : RomG b x0 x1 x3 g h w W' :=
  ⟨(hb.cell (p := ⟨b, 0, none⟩) H.lt).trans H.c0, (hb.cell (p := ⟨b, 1, none⟩) H.lt).trans H.c1, (hb.cell (p := ⟨b, 3, none⟩) H.lt).trans H.c3,
   fun i hi => (hb.cell (p := ⟨b, 4 + i, none⟩) H.lt).trans (H.r i hi), fun i hi => (hb.cell (p := ⟨b, 68 + i, none⟩) H.lt).trans (H.s i hi), fun i => (hb.frozen (p := ⟨b, i, none⟩) H.lt).trans (H.f i), Nat.lt_of_lt_of_le H.lt hb.size, H.on.then hb⟩
theorem RomG.again (H : RomG b x0 x1 x3 g h w W) : RomG b x0 x1 x3 g h W W := ⟨H.c0, H.c1, H.c3, H.r, H.s, H.f, H.lt, rfl, rfl, rfl, Nat.le_refl _, fun _ _ _ _ => rfl⟩
theorem cell_ne (W : World) (b i j : Nat) (v : Value) (hij : i ≠ j) : (W.setCell ⟨b, i, none⟩ v).cell? ⟨b, j, none⟩ = W.cell? ⟨b, j, none⟩ :=
  World.cell?_setCell_other _ ⟨b, i, none⟩ ⟨b, j, none⟩ _ (by simp [hij])
theorem RomG.set0 (H : RomG b x0 x1 x3 g h w W) (y : Int) : RomG b y x1 x3 g h w (W.setCell ⟨b, 0, none⟩ (.int .u32 y)) :=
  ⟨World.cell?_setCell_same _ _ _ H.c0, (cell_ne _ _ _ _ _ (by omega)).trans H.c1, (cell_ne _ _ _ _ _ (by omega)).trans H.c3, fun i hi => (cell_ne _ _ _ _ _ (by omega)).trans (H.r i hi), fun i hi => (cell_ne _ _ _ _ _ (by omega)).trans (H.s i hi), fun i => by simpa [go_sem] using H.f i, by simpa using H.lt, H.on.setp _ _⟩
theorem RomG.set1 (H : RomG b x0 x1 x3 g h w W) (y : Int) : RomG b x0 y x3 g h w (W.setCell ⟨b, 1, none⟩ (.int .i32 y)) :=
  ⟨(cell_ne _ _ _ _ _ (by omega)).trans H.c0, World.cell?_setCell_same _ _ _ H.c1, (cell_ne _ _ _ _ _ (by omega)).trans H.c3, fun i hi => (cell_ne _ _ _ _ _ (by omega)).trans (H.r i hi), fun i hi => (cell_ne _ _ _ _ _ (by omega)).trans (H.s i hi), fun i => by simpa [go_sem] using H.f i, by simpa using H.lt, H.on.setp _ _⟩
theorem RomG.set3 (H : RomG b x0 x1 x3 g h w W) (y : Int) : RomG b x0 x1 y g h w (W.setCell ⟨b, 3, none⟩ (.int .i64 y)) :=
  ⟨(cell_ne _ _ _ _ _ (by omega)).trans H.c0, (cell_ne _ _ _ _ _ (by omega)).trans H.c1, World.cell?_setCell_same _ _ _ H.c3, fun i hi => (cell_ne _ _ _ _ _ (by omega)).trans (H.r i hi), fun i hi => (cell_ne _ _ _ _ _ (by omega)).trans (H.s i hi), fun i => by simpa [go_sem] using H.f i, by simpa using H.lt, H.on.setp _ _⟩
theorem RomG.setr (H : RomG b x0 x1 x3 g h w W) (k v : Nat) (hk : k < 64) (g' : Nat → Nat) (h1 : g' k = v) (h2 : ∀ i, i < 64 → i ≠ k → g' i = g i) : RomG b x0 x1 x3 g' h w (W.setCell ⟨b, 4 + k, none⟩ (.int .u64 (v : Nat))) :=
  ⟨(cell_ne _ _ _ _ _ (by omega)).trans H.c0, (cell_ne _ _ _ _ _ (by omega)).trans H.c1, (cell_ne _ _ _ _ _ (by omega)).trans H.c3, fun i hi => by
    by_cases he : i = k
    · subst he
      rw [h1]
      exact World.cell?_setCell_same _ _ _ (H.r i hi)
    · rw [h2 i hi he]
      exact (cell_ne _ _ _ _ _ (by omega)).trans (H.r i hi), fun i hi => (cell_ne _ _ _ _ _ (by omega)).trans (H.s i hi), fun i => by simpa [go_sem] using H.f i, by simpa using H.lt, H.on.setp _ _⟩
theorem RomG.sets (H : RomG b x0 x1 x3 g h w W) (k v : Nat) (hk : k < 96) (h' : Nat → Nat) (h1 : h' k = v) (h2 : ∀ i, i < 96 → i ≠ k → h' i = h i) : RomG b x0 x1 x3 g h' w (W.setCell ⟨b, 68 + k, none⟩ (.int .u64 (v : Nat))) :=
  ⟨(cell_ne _ _ _ _ _ (by omega)).trans H.c0, (cell_ne _ _ _ _ _ (by omega)).trans H.c1, (cell_ne _ _ _ _ _ (by omega)).trans H.c3, fun i hi => (cell_ne _ _ _ _ _ (by omega)).trans (H.r i hi), fun i hi => by
    by_cases he : i = k
    · subst he
      rw [h1]
      exact World.cell?_setCell_same _ _ _ (H.s i hi)
    · rw [h2 i hi he]
      exact (cell_ne _ _ _ _ _ (by omega)).trans (H.s i hi), fun i => by simpa [go_sem] using H.f i, by simpa using H.lt, H.on.setp _ _⟩
end

set_option maxHeartbeats 1000000 in
/-- rom.each over a table of n places from off on. -/
theorem tabEach_any (fid b off n : Nat) (v : Nat → Nat) (I : Nat → World → Prop) (w : World) (hn : n ≤ 1000)
    (hent : ∀ args w, (callFunc fid args).run Try.prog w = .ok (.enter fid args) w)
    (HCA : Hid (∀ k w, k < n → Calls Try.prog fid #[.int .i64 (k : Nat)] w fun e w' => e = .returned (.int .u64 (v k : Nat)) ∧ Below w.heap.size w w'))
    (HB : Hid (∀ k W W', I k W → Below W.heap.size W W' → I k W'))
    (HC : Hid (∀ k W, k < n → I k W → (∃ x, W.cell? ⟨b, off + k, none⟩ = some x) ∧ W.frozen? ⟨b, off + k, none⟩ = false ∧ I (k + 1) (W.setCell ⟨b, off + k, none⟩ (.int .u64 (v k : Nat))))) (HI0 : Hid (I 0 w)) :
    Calls Try.prog 69 #[.slice (some ⟨b, off, none⟩) n n, .func (.func fid) #[] #[]] w fun e w' => e = .returned (.tuple #[]) ∧ I n w' := by
  go_enter Try.func69, Try.ntmps69
  go_wp2
  go_loopw [7] (fun i wr => ∃ (k : Nat), k ≤ n ∧ i = .int .i64 (k : Nat) ∧ Hid (I k wr))
    (fun i _ => n - (intOf i).toNat)
  case atStart => exact ⟨0, by omega, rfl, HI0.out⟩
  case round =>
    obtain ⟨k, hk, rfl, HI⟩ := hrel
    by_cases hlt : k < n
    · have hlt' : (k : Int) < (n : Int) := by omega
      have hw1 : IntKind.i64.wrap ((k : Int) + 1) = ((k + 1 : Nat) : Int) := by rw [IntKind.wrap_i64]; omega
      go_wp2_with fail
      refine (HCA.out k wr hlt).mono ?_
      rintro e w1 ⟨rfl, hb1⟩
      replace HI := hide (HB.out k wr w1 HI.out hb1)
      obtain ⟨⟨x, hc⟩, hf, hI⟩ := HC.out k w1 hlt HI.out
      have HI2 := hide hI
      clear hb1 hI HI
      go_wp2
      go_roundw
      case rel => exact ⟨k + 1, by omega, by first | rfl | simp, HI2⟩
      case measure => simp [intOf]; omega
    · have hlt' : ¬ (k : Int) < (n : Int) := by omega
      have he : k = n := by omega
      subst he
      go_wp2
      go_end0
      exact ⟨rfl, HI.out⟩

/-- rom.at. -/
theorem at_no (b off n : Nat) (i : Int) (h : i < 0 ∨ (n : Int) ≤ i) (hn : n ≤ 1000) (w : World) : Calls Try.prog 45 #[.slice (some ⟨b, off, none⟩) n n, .int .i64 i] w fun e w' => e = .returned (.tuple #[.int .u64 0, .bool false]) ∧ w' = w := by
  go_enter Try.func45, Try.ntmps45
  rcases h with h | h
  · go_wp2
    exact bodyPost_ret (v := .tuple #[.int .u64 0, .bool false]) (by simp [results, Try.results45, go_sem]) rfl ⟨rfl, rfl⟩
  · have h0 : ¬ i < 0 := by omega
    go_wp2
    exact bodyPost_ret (v := .tuple #[.int .u64 0, .bool false]) (by simp [results, Try.results45, go_sem]) rfl ⟨rfl, rfl⟩
theorem at_yes (b off n i x : Nat) (h : i < n) (hn : n ≤ 1000) (w : World) (hc : w.cell? ⟨b, off + i, none⟩ = some (.int .u64 (x : Nat))) : Calls Try.prog 45 #[.slice (some ⟨b, off, none⟩) n n, .int .i64 (i : Nat)] w fun e w' => e = .returned (.tuple #[.int .u64 (x : Nat), .bool true]) ∧ w' = w := by
  have h0 : ¬ (i : Int) < 0 := by omega
  have h1 : ¬ (n : Int) ≤ (i : Int) := by omega
  go_enter Try.func45, Try.ntmps45
  go_wp2
  exact bodyPost_ret (v := .tuple #[.int .u64 (x : Nat), .bool true]) (by simp [results, Try.results45, go_sem]) rfl ⟨rfl, rfl⟩
end Go.Proofs.Yteocibahclpegaa

/- Contracts: rom's fill, Do, Recip, Root, Made, New. -/
set_option linter.unusedVariables false
set_option linter.unusedSimpArgs false
set_option maxRecDepth 8000
namespace Go.Proofs.Yteocibahclpegaa
open Go.RowKit Plain

/-- The first k places as they shall be, the rest 0. -/
def upTo (f : Nat → Nat) (k : Nat) : Nat → Nat := fun i => bif Nat.blt i k then f i else 0
theorem upTo_at (f : Nat → Nat) (k : Nat) : upTo f (k + 1) k = f k := by
  unfold upTo
  rw [show Nat.blt k (k + 1) = true by simp [Nat.blt]]
  rfl
theorem upTo_ne (f : Nat → Nat) (k i : Nat) (h : i ≠ k) : upTo f (k + 1) i = upTo f k i := by
  unfold upTo
  rw [show Nat.blt i (k + 1) = Nat.blt i k by
    rw [Bool.eq_iff_iff]
    simp only [Nat.blt_eq]
    omega]
theorem upTo_all (f : Nat → Nat) (k i : Nat) (h : i < k) : upTo f k i = f i := by
  unfold upTo
  rw [show Nat.blt i k = true by rw [Nat.blt_eq]; exact h]
  rfl
theorem RomG.congr {b : Nat} {x0 x1 x3 : Int} {g h g' h' : Nat → Nat} {w W : World} (H : RomG b x0 x1 x3 g h w W) (h1 : ∀ i, i < 64 → g i = g' i) (h2 : ∀ i, i < 96 → h i = h' i) : RomG b x0 x1 x3 g' h' w W :=
  ⟨H.c0, H.c1, H.c3, fun i hi => by rw [← h1 i hi]; exact H.r i hi, fun i hi => by rw [← h2 i hi]; exact H.s i hi, H.f, H.lt, H.on⟩
/-- What the tables shall have. -/
def rtZ (i : Nat) : Nat := rtN (32 + i)

theorem each1_any (b : Nat) (x0 x1 x3 : Int) (h : Nat → Nat) (w W : World) (H : RomG b x0 x1 x3 (fun _ => 0) h w W) :
    Calls Try.prog 69 #[.slice (some ⟨b, 4, none⟩) 64 64, .func (.func 70) #[] #[]] W fun e w' => e = .returned (.tuple #[]) ∧ RomG b x0 x1 x3 rcN h w w' := by
  have h0 : RomG b x0 x1 x3 (upTo rcN 0) h w W := H.congr (fun i _ => rfl) (fun _ _ => rfl)
  refine (tabEach_any 70 b 4 64 rcN (fun k V => RomG b x0 x1 x3 (upTo rcN k) h w V) W (by omega) (enters_of Try.func70 (by kernel_rfl) rfl) (hide fun k w hk => fill1_any k hk w) (hide fun k W W' hI hb => hI.below hb)
    (hide fun k W hk hI => ⟨⟨_, hI.r k hk⟩, hI.f _, hI.setr k (rcN k) hk _ (upTo_at _ _) (fun i _ hne => upTo_ne _ _ _ hne)⟩) (hide h0)).mono ?_
  rintro e w' ⟨rfl, h⟩
  exact ⟨rfl, h.congr (fun i hi => upTo_all _ _ _ hi) (fun _ _ => rfl)⟩
theorem each2_any (b : Nat) (x0 x1 x3 : Int) (g : Nat → Nat) (w W : World) (H : RomG b x0 x1 x3 g (fun _ => 0) w W) :
    Calls Try.prog 69 #[.slice (some ⟨b, 68, none⟩) 96 96, .func (.func 71) #[] #[]] W fun e w' => e = .returned (.tuple #[]) ∧ RomG b x0 x1 x3 g rtZ w w' := by
  have h0 : RomG b x0 x1 x3 g (upTo rtZ 0) w W := H.congr (fun i _ => rfl) (fun _ _ => rfl)
  refine (tabEach_any 71 b 68 96 rtZ (fun k V => RomG b x0 x1 x3 g (upTo rtZ k) w V) W (by omega) (enters_of Try.func71 (by kernel_rfl) rfl) (hide fun k w hk => fill2_any k hk w) (hide fun k W W' hI hb => hI.below hb)
    (hide fun k W hk hI => ⟨⟨_, hI.s k hk⟩, hI.f _, hI.sets k (rtZ k) hk _ (upTo_at _ _) (fun i _ hne => upTo_ne _ _ _ hne)⟩) (hide h0)).mono ?_
  rintro e w' ⟨rfl, h⟩
  exact ⟨rfl, h.congr (fun _ _ => rfl) (fun i hi => upTo_all _ _ _ hi)⟩

set_option maxHeartbeats 1000000 in
/-- rom.fill. -/
theorem fill_any (b : Nat) (x0 x1 : Int) (w W : World) (H : RomG b x0 x1 0 (fun _ => 0) (fun _ => 0) w W) :
    Calls Try.prog 44 #[.pointer (some ⟨b, 0, none⟩)] W fun e w' => e = .returned (.tuple #[]) ∧ RomG b x0 x1 1 rcN rtZ w w' := by
  have H1 := hide (each1_any b x0 x1 0 _ w W H)
  have c3 := H.c3
  have c4 := H.r 0 (by decide)
  have c68 := H.s 0 (by decide)
  clear H
  go_enter Try.func44, Try.ntmps44
  go_wp2_with fail
  refine H1.out.mono ?_
  rintro e W1 ⟨rfl, h1⟩
  have H2 := hide (each2_any b x0 x1 0 _ w W1 h1)
  clear h1 H1 c3 c4 c68
  go_wp2_with fail
  refine H2.out.mono ?_
  rintro e W2 ⟨rfl, h2⟩
  have HG := hide h2
  have H3 := hide (count_add ⟨b, 3, none⟩ W2 h2.c3 (h2.f 3))
  clear h2 H2
  go_wp2_with fail
  refine H3.out.mono ?_
  rintro e W3 ⟨rfl, rfl⟩
  clear H3
  go_wp2
  go_end0
  exact ⟨rfl, HG.out.set3 1⟩

/-- Do: the tables are made, if they aren't yet. -/
theorem do_any (b : Nat) (d : Bool) (w W : World) (H : RomG b (bif d then 1 else 0) 0 (bif d then 1 else 0) (bif d then rcN else fun _ => 0) (bif d then rtZ else fun _ => 0) w W) :
    Calls Try.prog 43 #[.pointer (some ⟨b, 0, none⟩), .func (.func 44) #[.pointer (some ⟨b, 0, none⟩)] #[]] W fun e w' => e = .returned (.tuple #[]) ∧ RomG b 1 0 1 rcN rtZ w w' := by
  cases d with
  | true =>
    refine (do_done ⟨b, 0, none⟩ _ W H.c0).mono ?_
    rintro e w' ⟨rfl, rfl⟩
    exact ⟨rfl, H⟩
  | false =>
    refine (do_first b (fun V => RomG b 0 1 1 rcN rtZ w V) W H.c0 H.c1 (H.f 0) (H.f 1) (hide (fill_any b 0 1 w _ (H.set1 1))) (hide fun V h => ⟨h.c0, h.c1, h.f 0, h.f 1⟩)).mono ?_
    rintro e w' ⟨rfl, V, h, rfl⟩
    exact ⟨rfl, ((h.below (Below.refl _ _).drew).set0 1).set1 0⟩
/-- A rom, made or not. -/
def RomD (b : Nat) (d : Bool) (w W : World) : Prop := RomG b (bif d then 1 else 0) 0 (bif d then 1 else 0) (bif d then rcN else fun _ => 0) (bif d then rtZ else fun _ => 0) w W
theorem RomD.below {b : Nat} {d : Bool} {w W W' : World} (h : RomD b d w W) (hb : Below W.heap.size W W') : RomD b d w W' := RomG.below h hb

set_option maxHeartbeats 1000000 in
theorem recip_walk (b : Nat) (d : Bool) (i : Int) (x : Nat) (ok : Bool) (w W : World)
    (HDO : Hid (Calls Try.prog 43 #[.pointer (some ⟨b, 0, none⟩), .func (.func 44) #[.pointer (some ⟨b, 0, none⟩)] #[]] W fun e w' => e = .returned (.tuple #[]) ∧ RomG b 1 0 1 rcN rtZ w w'))
    (HAT : Hid (∀ V, RomG b 1 0 1 rcN rtZ w V → Calls Try.prog 45 #[.slice (some ⟨b, 4, none⟩) 64 64, .int .i64 i] V fun e w' => e = .returned (.tuple #[.int .u64 (x : Nat), .bool ok]) ∧ w' = V))
    (H0 : ∃ v, W.cell? ⟨b, 0, none⟩ = some v) :
    Calls Try.prog 10 #[.pointer (some ⟨b, 0, none⟩), .int .i64 i] W fun e w' => e = .returned (.tuple #[.int .u64 (x : Nat), .bool ok]) ∧ RomD b true w w' := by
  obtain ⟨v0, c0⟩ := H0
  go_enter Try.func10, Try.ntmps10
  go_wp2_with fail
  refine HDO.out.mono ?_
  rintro e W1 ⟨rfl, h1⟩
  have HA := hide (HAT.out W1 h1)
  have HG := hide h1
  have c4 := h1.r 0 (by decide)
  clear h1 HDO HAT c0
  go_wp2_with fail
  refine HA.out.mono ?_
  rintro e W2 ⟨rfl, rfl⟩
  clear HA c4
  go_wp2
  exact bodyPost_ret (v := .tuple #[.int .u64 (x : Nat), .bool ok]) (by simp [results, Try.results10, go_sem]) rfl ⟨rfl, HG.out⟩
set_option maxHeartbeats 1000000 in
theorem rootm_walk (b : Nat) (d : Bool) (i j : Int) (x : Nat) (ok : Bool) (w W : World) (hij : IntKind.i64.wrap (i - 32) = j)
    (HDO : Hid (Calls Try.prog 43 #[.pointer (some ⟨b, 0, none⟩), .func (.func 44) #[.pointer (some ⟨b, 0, none⟩)] #[]] W fun e w' => e = .returned (.tuple #[]) ∧ RomG b 1 0 1 rcN rtZ w w'))
    (HAT : Hid (∀ V, RomG b 1 0 1 rcN rtZ w V → Calls Try.prog 45 #[.slice (some ⟨b, 68, none⟩) 96 96, .int .i64 j] V fun e w' => e = .returned (.tuple #[.int .u64 (x : Nat), .bool ok]) ∧ w' = V))
    (H0 : ∃ v, W.cell? ⟨b, 0, none⟩ = some v) :
    Calls Try.prog 11 #[.pointer (some ⟨b, 0, none⟩), .int .i64 i] W fun e w' => e = .returned (.tuple #[.int .u64 (x : Nat), .bool ok]) ∧ RomD b true w w' := by
  obtain ⟨v0, c0⟩ := H0
  go_enter Try.func11, Try.ntmps11
  go_wp2_with fail
  refine HDO.out.mono ?_
  rintro e W1 ⟨rfl, h1⟩
  have HA := hide (HAT.out W1 h1)
  have HG := hide h1
  have c4 := h1.s 0 (by decide)
  clear h1 HDO HAT c0
  go_wp2_with fail
  refine HA.out.mono ?_
  rintro e W2 ⟨rfl, rfl⟩
  clear HA c4
  go_wp2
  exact bodyPost_ret (v := .tuple #[.int .u64 (x : Nat), .bool ok]) (by simp [results, Try.results11, go_sem]) rfl ⟨rfl, HG.out⟩
end Go.Proofs.Yteocibahclpegaa

/- Contracts: rom's Recip, Root, Made in numbers, of a rom that isn't there too; New; from; Guess, GuessRoot; the document's tables likewise. -/
set_option linter.unusedVariables false
set_option linter.unusedSimpArgs false
set_option maxRecDepth 8000
namespace Go.Proofs.Yteocibahclpegaa
open Go.RowKit Plain

/-- What the first table has of a place, and whether it has it. -/
def rcV (i : Int) : Nat := if 0 ≤ i ∧ i < 64 then rcN i.toNat else 0
def rcO (i : Int) : Bool := decide (0 ≤ i ∧ i < 64)
def rtV (i : Int) : Nat := if 32 ≤ i ∧ i < 128 then rtN i.toNat else 0
def rtO (i : Int) : Bool := decide (32 ≤ i ∧ i < 128)

theorem recip_any (b : Nat) (d : Bool) (i : Int) (w W : World) (H : RomD b d w W) :
    Calls Try.prog 10 #[.pointer (some ⟨b, 0, none⟩), .int .i64 i] W fun e w' => e = .returned (.tuple #[.int .u64 (rcV i : Nat), .bool (rcO i)]) ∧ RomD b true w w' := by
  refine recip_walk b d i (rcV i) (rcO i) w W (hide (do_any b d w W H)) (hide fun V hV => ?_) ⟨_, H.c0⟩
  by_cases h : 0 ≤ i ∧ i < 64
  · obtain ⟨k, rfl⟩ : ∃ k : Nat, i = (k : Int) := ⟨i.toNat, by omega⟩
    have hk : k < 64 := by omega
    have e1 : rcV (k : Int) = rcN k := by unfold rcV; rw [if_pos h]; rfl
    have e2 : rcO (k : Int) = true := by unfold rcO; exact decide_eq_true h
    rw [e1, e2]
    exact at_yes b 4 64 k _ hk (by omega) V (hV.r k hk)
  · have e1 : rcV i = 0 := by unfold rcV; rw [if_neg h]
    have e2 : rcO i = false := by unfold rcO; exact decide_eq_false h
    rw [e1, e2]
    exact at_no b 4 64 i (by omega) (by omega) V
theorem rootm_any (b : Nat) (d : Bool) (i : Int) (hi : -9223372036854775808 ≤ i ∧ i ≤ 9223372036854775807) (w W : World) (H : RomD b d w W) :
    Calls Try.prog 11 #[.pointer (some ⟨b, 0, none⟩), .int .i64 i] W fun e w' => e = .returned (.tuple #[.int .u64 (rtV i : Nat), .bool (rtO i)]) ∧ RomD b true w w' := by
  refine rootm_walk b d i _ (rtV i) (rtO i) w W rfl (hide (do_any b d w W H)) (hide fun V hV => ?_) ⟨_, H.c0⟩
  by_cases h : 32 ≤ i ∧ i < 128
  · obtain ⟨k, rfl⟩ : ∃ k : Nat, i = ((32 + k : Nat) : Int) := ⟨(i - 32).toNat, by omega⟩
    have hk : k < 96 := by omega
    have e1 : rtV ((32 + k : Nat) : Int) = rtZ k := by unfold rtV rtZ; rw [if_pos h]; rfl
    have e2 : rtO ((32 + k : Nat) : Int) = true := by unfold rtO; exact decide_eq_true h
    have e3 : IntKind.i64.wrap (((32 + k : Nat) : Int) - 32) = ((k : Nat) : Int) := by rw [IntKind.wrap_i64]; omega
    rw [e1, e2, e3]
    exact at_yes b 68 96 k _ hk (by omega) V (hV.s k hk)
  · have e1 : rtV i = 0 := by unfold rtV; rw [if_neg h]
    have e2 : rtO i = false := by unfold rtO; exact decide_eq_false h
    rw [e1, e2]
    refine at_no b 68 96 _ ?_ (by omega) V
    rw [IntKind.wrap_i64]
    omega

/-- The document's tables. -/
theorem recip17_any (i : Int) (w : World) : Calls Try.prog 12 #[.int .i64 i] w fun e w' => e = .returned (.tuple #[.int .u64 (rcV i : Nat), .bool (rcO i)]) ∧ w' = w := by
  by_cases h : 0 ≤ i ∧ i < 64
  · obtain ⟨k, rfl⟩ : ∃ k : Nat, i = (k : Int) := ⟨i.toNat, by omega⟩
    have e1 : rcV (k : Int) = rcN k := by unfold rcV; rw [if_pos h]; rfl
    have e2 : rcO (k : Int) = true := by unfold rcO; exact decide_eq_true h
    rw [e1, e2]
    exact recip17_yes k (by omega) w
  · have e1 : rcV i = 0 := by unfold rcV; rw [if_neg h]
    have e2 : rcO i = false := by unfold rcO; exact decide_eq_false h
    rw [e1, e2]
    exact recip17_no i (by omega) w
theorem root17_any (i : Int) (w : World) : Calls Try.prog 13 #[.int .i64 i] w fun e w' => e = .returned (.tuple #[.int .u64 (rtV i : Nat), .bool (rtO i)]) ∧ w' = w := by
  by_cases h : 32 ≤ i ∧ i < 128
  · obtain ⟨k, rfl⟩ : ∃ k : Nat, i = (k : Int) := ⟨i.toNat, by omega⟩
    have e1 : rtV (k : Int) = rtN k := by unfold rtV; rw [if_pos h]; rfl
    have e2 : rtO (k : Int) = true := by unfold rtO; exact decide_eq_true h
    rw [e1, e2]
    exact root17_yes k (by omega) (by omega) w
  · have e1 : rtV i = 0 := by unfold rtV; rw [if_neg h]
    have e2 : rtO i = false := by unfold rtO; exact decide_eq_false h
    rw [e1, e2]
    exact root17_no i (by omega) w

/-- A rom that isn't there. -/
theorem recip_nil (i : Int) (w : World) : Calls Try.prog 10 #[.pointer none, .int .i64 i] w fun e w' => e = .returned (.tuple #[.int .u64 0, .bool false]) ∧ w' = w := by
  go_enter Try.func10, Try.ntmps10
  go_wp2
  exact bodyPost_ret (v := .tuple #[.int .u64 0, .bool false]) (by simp [results, Try.results10, go_sem]) rfl ⟨rfl, rfl⟩
theorem rootm_nil (i : Int) (w : World) : Calls Try.prog 11 #[.pointer none, .int .i64 i] w fun e w' => e = .returned (.tuple #[.int .u64 0, .bool false]) ∧ w' = w := by
  go_enter Try.func11, Try.ntmps11
  go_wp2
  exact bodyPost_ret (v := .tuple #[.int .u64 0, .bool false]) (by simp [results, Try.results11, go_sem]) rfl ⟨rfl, rfl⟩
theorem made_nil (w : World) : Calls Try.prog 22 #[.pointer none] w fun e w' => e = .returned (.int .i64 0) ∧ w' = w := by
  go_enter Try.func22, Try.ntmps22
  go_wp2
  exact bodyPost_ret (v := .int .i64 0) (by simp [results, Try.results22, go_sem]) rfl ⟨rfl, rfl⟩
theorem made_any (b : Nat) (x : Int) (w : World) (c3 : w.cell? ⟨b, 3, none⟩ = some (.int .i64 x)) (hx : x = 0 ∨ x = 1) : Calls Try.prog 22 #[.pointer (some ⟨b, 0, none⟩)] w fun e w' => e = .returned (.int .i64 x) ∧ w' = w := by
  have HL := hide (count_load ⟨b, 3, none⟩ x w c3)
  go_enter Try.func22, Try.ntmps22
  go_wp2_with fail
  refine HL.out.mono ?_
  rintro e w1 ⟨rfl, rfl⟩
  go_wp2
  exact bodyPost_ret (v := .int .i64 x) (by simp [results, Try.results22, go_sem]) rfl ⟨rfl, rfl⟩

theorem fld_lo17 (x y : Value) (w : World) : (Instr.field 30 (.agg #[x, y]) 1).run Try.prog w = .ok y w := by
  have h64 := Try.underlying24
  have hg := Try.isAgg24
  simp [Instr.field, asAgg, go_sem, run_underlying Try.underlying30]
/-- rom.from. -/
theorem from_any (a p : Nat) (ha : a < QQ) (hp : p ≤ 500) (hq : a / 2 ^ p < 256) (w : World) : Calls Try.prog 47 #[.agg #[.int .u64 (dgl (a) 0 : Nat), .int .u64 (dgl (a) 1 : Nat), .int .u64 (dgl (a) 2 : Nat), .int .u64 (dgl (a) 3 : Nat), .int .u64 (dgl (a) 4 : Nat), .int .u64 (dgl (a) 5 : Nat), .int .u64 (dgl (a) 6 : Nat), .int .u64 (dgl (a) 7 : Nat)], .int .i64 (p : Nat)] w fun e w' => e = .returned (.int .i64 ((a / 2 ^ p : Nat) : Int)) ∧ Below w.heap.size w w' := by
  have HS := hide (fun w => wideShr_any a p (p : Nat) (by unfold roomI; omega) ha w)
  have HW := hide (fun w => wideLow_any (dgl (a / 2 ^ p)) w)
  have e0 : dgl (a / 2 ^ p) 0 = a / 2 ^ p := dgl_low0 (by omega)
  generalize (!decide (a / 2 ^ p * 2 ^ p = a)) = z at *
  generalize a / 2 ^ p = q at *
  have e1 : IntKind.i64.wrap ((q : Nat) : Int) = ((q : Nat) : Int) := by rw [IntKind.wrap_i64]; omega
  rw [e0] at HW
  clear ha hp
  go_enter Try.func47, Try.ntmps47
  go_wp2_with fail
  refine (HS.out _).mono ?_
  rintro e w1 ⟨rfl, hb1⟩
  have HB := hide (below_trans (below_allocs _ _) hb1)
  have hfd := fun w => fld_lo17 (.int .u64 (dgl q 1 : Nat)) (.int .u64 (q : Nat)) w
  clear hb1 HS
  go_wp2_with fail
  refine (HW.out _).mono ?_
  rintro e w2 ⟨rfl, hb2⟩
  replace HB := hide (below_trans HB.out (below_trans (below_allocs _ _) hb2))
  clear hb2 HW e0
  go_wp2
  exact bodyPost_ret (v := .int .i64 (q : Nat)) (by simp [results, Try.results47, go_sem]) rfl ⟨rfl, HB.out⟩

/-- Guess: of a rom that is there, or not. -/
theorem guess_no (p : Value) (a x : Nat) (ok : Bool) (L : Int) (h : (L == 128) = false) (Q : World → Prop)
    (HL : Hid (∀ w, Calls Try.prog 46 #[.agg #[.int .u64 (dgl (a) 0 : Nat), .int .u64 (dgl (a) 1 : Nat), .int .u64 (dgl (a) 2 : Nat), .int .u64 (dgl (a) 3 : Nat), .int .u64 (dgl (a) 4 : Nat), .int .u64 (dgl (a) 5 : Nat), .int .u64 (dgl (a) 6 : Nat), .int .u64 (dgl (a) 7 : Nat)]] w fun e w' => e = .returned (.int .i64 L) ∧ Below w.heap.size w w')) (w : World)
    (HR : Hid (∀ V, Below w.heap.size w V → Calls Try.prog 10 #[p, .int .i64 (-1)] V fun e w' => e = .returned (.tuple #[.int .u64 (x : Nat), .bool ok]) ∧ Q w')) :
    Calls Try.prog 15 #[p, .agg #[.int .u64 (dgl (a) 0 : Nat), .int .u64 (dgl (a) 1 : Nat), .int .u64 (dgl (a) 2 : Nat), .int .u64 (dgl (a) 3 : Nat), .int .u64 (dgl (a) 4 : Nat), .int .u64 (dgl (a) 5 : Nat), .int .u64 (dgl (a) 6 : Nat), .int .u64 (dgl (a) 7 : Nat)]] w fun e w' => e = .returned (.tuple #[.int .u64 (x : Nat), .bool ok]) ∧ Q w' := by
  have h' : ¬ L = 128 := fun e => by rw [e] at h; cases h
  go_enter Try.func15, Try.ntmps15
  go_wp2_with fail
  refine (HL.out _).mono ?_
  rintro e w1 ⟨rfl, hb1⟩
  have HB := hide (below_trans (below_allocs _ _) hb1)
  clear hb1 HL
  go_wp2_with fail
  refine (HR.out _ HB.out).mono ?_
  rintro e w2 ⟨rfl, hq⟩
  have HQ := hide hq
  clear hq HR
  go_wp2
  exact bodyPost_ret (v := .tuple #[.int .u64 (x : Nat), .bool ok]) (by simp [results, Try.results15, go_sem]) rfl ⟨rfl, HQ.out⟩
theorem guess_yes (p : Value) (a x : Nat) (ok : Bool) (f j : Int) (hj : IntKind.i64.wrap (f - 64) = j) (Q : World → Prop)
    (HL : Hid (∀ w, Calls Try.prog 46 #[.agg #[.int .u64 (dgl (a) 0 : Nat), .int .u64 (dgl (a) 1 : Nat), .int .u64 (dgl (a) 2 : Nat), .int .u64 (dgl (a) 3 : Nat), .int .u64 (dgl (a) 4 : Nat), .int .u64 (dgl (a) 5 : Nat), .int .u64 (dgl (a) 6 : Nat), .int .u64 (dgl (a) 7 : Nat)]] w fun e w' => e = .returned (.int .i64 128) ∧ Below w.heap.size w w'))
    (HF : Hid (∀ w, Calls Try.prog 47 #[.agg #[.int .u64 (dgl (a) 0 : Nat), .int .u64 (dgl (a) 1 : Nat), .int .u64 (dgl (a) 2 : Nat), .int .u64 (dgl (a) 3 : Nat), .int .u64 (dgl (a) 4 : Nat), .int .u64 (dgl (a) 5 : Nat), .int .u64 (dgl (a) 6 : Nat), .int .u64 (dgl (a) 7 : Nat)], .int .i64 121] w fun e w' => e = .returned (.int .i64 f) ∧ Below w.heap.size w w')) (w : World)
    (HR : Hid (∀ V, Below w.heap.size w V → Calls Try.prog 10 #[p, .int .i64 j] V fun e w' => e = .returned (.tuple #[.int .u64 (x : Nat), .bool ok]) ∧ Q w')) :
    Calls Try.prog 15 #[p, .agg #[.int .u64 (dgl (a) 0 : Nat), .int .u64 (dgl (a) 1 : Nat), .int .u64 (dgl (a) 2 : Nat), .int .u64 (dgl (a) 3 : Nat), .int .u64 (dgl (a) 4 : Nat), .int .u64 (dgl (a) 5 : Nat), .int .u64 (dgl (a) 6 : Nat), .int .u64 (dgl (a) 7 : Nat)]] w fun e w' => e = .returned (.tuple #[.int .u64 (x : Nat), .bool ok]) ∧ Q w' := by
  have hl0 := liesF_new w (dgl a) 32
  have HL0 := hide hl0
  clear hl0
  go_enter Try.func15, Try.ntmps15
  go_wp2_with fail
  refine (HL.out _).mono ?_
  rintro e w1 ⟨rfl, hb1⟩
  replace HL0 := hide (HL0.out.below hb1)
  have HB := hide (below_trans (below_allocs _ _) hb1)
  have hl := HL0.out.1
  clear hb1 HL
  go_wp2_with fail
  refine (HF.out _).mono ?_
  rintro e w2 ⟨rfl, hb2⟩
  replace HB := hide (below_trans HB.out hb2)
  clear hb2 HF hl HL0
  go_wp2_with fail
  refine (HR.out _ HB.out).mono ?_
  rintro e w3 ⟨rfl, hq⟩
  have HQ := hide hq
  clear hq HR
  go_wp2
  exact bodyPost_ret (v := .tuple #[.int .u64 (x : Nat), .bool ok]) (by simp [results, Try.results15, go_sem]) rfl ⟨rfl, HQ.out⟩
theorem guessR_no (p : Value) (a x : Nat) (ok : Bool) (L : Int) (h : (L == 256) = false) (h2 : (L == 255) = false) (Q : World → Prop)
    (HL : Hid (∀ w, Calls Try.prog 46 #[.agg #[.int .u64 (dgl (a) 0 : Nat), .int .u64 (dgl (a) 1 : Nat), .int .u64 (dgl (a) 2 : Nat), .int .u64 (dgl (a) 3 : Nat), .int .u64 (dgl (a) 4 : Nat), .int .u64 (dgl (a) 5 : Nat), .int .u64 (dgl (a) 6 : Nat), .int .u64 (dgl (a) 7 : Nat)]] w fun e w' => e = .returned (.int .i64 L) ∧ Below w.heap.size w w')) (w : World)
    (HR : Hid (∀ V, Below w.heap.size w V → Calls Try.prog 11 #[p, .int .i64 (-1)] V fun e w' => e = .returned (.tuple #[.int .u64 (x : Nat), .bool ok]) ∧ Q w')) :
    Calls Try.prog 16 #[p, .agg #[.int .u64 (dgl (a) 0 : Nat), .int .u64 (dgl (a) 1 : Nat), .int .u64 (dgl (a) 2 : Nat), .int .u64 (dgl (a) 3 : Nat), .int .u64 (dgl (a) 4 : Nat), .int .u64 (dgl (a) 5 : Nat), .int .u64 (dgl (a) 6 : Nat), .int .u64 (dgl (a) 7 : Nat)]] w fun e w' => e = .returned (.tuple #[.int .u64 (x : Nat), .bool ok]) ∧ Q w' := by
  have h' : ¬ L = 256 := fun e => by rw [e] at h; cases h
  have h2' : ¬ L = 255 := fun e => by rw [e] at h2; cases h2
  go_enter Try.func16, Try.ntmps16
  go_wp2_with fail
  refine (HL.out _).mono ?_
  rintro e w1 ⟨rfl, hb1⟩
  have HB := hide (below_trans (below_allocs _ _) hb1)
  clear hb1 HL
  go_wp2_with fail
  refine (HR.out _ HB.out).mono ?_
  rintro e w2 ⟨rfl, hq⟩
  have HQ := hide hq
  clear hq HR
  go_wp2
  exact bodyPost_ret (v := .tuple #[.int .u64 (x : Nat), .bool ok]) (by simp [results, Try.results16, go_sem]) rfl ⟨rfl, HQ.out⟩
theorem guessR_yes (p : Value) (a x : Nat) (ok : Bool) (L f : Int) (hL : L = 256 ∨ L = 255) (Q : World → Prop)
    (HL : Hid (∀ w, Calls Try.prog 46 #[.agg #[.int .u64 (dgl (a) 0 : Nat), .int .u64 (dgl (a) 1 : Nat), .int .u64 (dgl (a) 2 : Nat), .int .u64 (dgl (a) 3 : Nat), .int .u64 (dgl (a) 4 : Nat), .int .u64 (dgl (a) 5 : Nat), .int .u64 (dgl (a) 6 : Nat), .int .u64 (dgl (a) 7 : Nat)]] w fun e w' => e = .returned (.int .i64 L) ∧ Below w.heap.size w w'))
    (HF : Hid (∀ w, Calls Try.prog 47 #[.agg #[.int .u64 (dgl (a) 0 : Nat), .int .u64 (dgl (a) 1 : Nat), .int .u64 (dgl (a) 2 : Nat), .int .u64 (dgl (a) 3 : Nat), .int .u64 (dgl (a) 4 : Nat), .int .u64 (dgl (a) 5 : Nat), .int .u64 (dgl (a) 6 : Nat), .int .u64 (dgl (a) 7 : Nat)], .int .i64 249] w fun e w' => e = .returned (.int .i64 f) ∧ Below w.heap.size w w')) (w : World)
    (HR : Hid (∀ V, Below w.heap.size w V → Calls Try.prog 11 #[p, .int .i64 f] V fun e w' => e = .returned (.tuple #[.int .u64 (x : Nat), .bool ok]) ∧ Q w')) :
    Calls Try.prog 16 #[p, .agg #[.int .u64 (dgl (a) 0 : Nat), .int .u64 (dgl (a) 1 : Nat), .int .u64 (dgl (a) 2 : Nat), .int .u64 (dgl (a) 3 : Nat), .int .u64 (dgl (a) 4 : Nat), .int .u64 (dgl (a) 5 : Nat), .int .u64 (dgl (a) 6 : Nat), .int .u64 (dgl (a) 7 : Nat)]] w fun e w' => e = .returned (.tuple #[.int .u64 (x : Nat), .bool ok]) ∧ Q w' := by
  have hl0 := liesF_new w (dgl a) 32
  have HL0 := hide hl0
  clear hl0
  go_enter Try.func16, Try.ntmps16
  go_wp2_with fail
  refine (HL.out _).mono ?_
  rintro e w1 ⟨rfl, hb1⟩
  replace HL0 := hide (HL0.out.below hb1)
  have HB := hide (below_trans (below_allocs _ _) hb1)
  have hl := HL0.out.1
  clear hb1 HL
  rcases hL with rfl | rfl
  · go_wp2_with fail
    refine (HF.out _).mono ?_
    rintro e w2 ⟨rfl, hb2⟩
    replace HB := hide (below_trans HB.out hb2)
    clear hb2 HF hl HL0
    go_wp2_with fail
    refine (HR.out _ HB.out).mono ?_
    rintro e w3 ⟨rfl, hq⟩
    have HQ := hide hq
    clear hq HR
    go_wp2
    exact bodyPost_ret (v := .tuple #[.int .u64 (x : Nat), .bool ok]) (by simp [results, Try.results16, go_sem]) rfl ⟨rfl, HQ.out⟩
  · go_wp2_with fail
    refine (HF.out _).mono ?_
    rintro e w2 ⟨rfl, hb2⟩
    replace HB := hide (below_trans HB.out hb2)
    clear hb2 HF hl HL0
    go_wp2_with fail
    refine (HR.out _ HB.out).mono ?_
    rintro e w3 ⟨rfl, hq⟩
    have HQ := hide hq
    clear hq HR
    go_wp2
    exact bodyPost_ret (v := .tuple #[.int .u64 (x : Nat), .bool ok]) (by simp [results, Try.results16, go_sem]) rfl ⟨rfl, HQ.out⟩
end Go.Proofs.Yteocibahclpegaa

/- Contracts: rom.New. -/
set_option linter.unusedVariables false
set_option linter.unusedSimpArgs false
set_option maxRecDepth 8000
namespace Go.Proofs.Yteocibahclpegaa
open Go.RowKit Plain
theorem zero87 : Try.zeroCells87 = #[.int .u32 0, .int .i32 0, .int .u32 0, .int .i64 0] ++ Array.replicate 160 (.int .u64 0) := by kernel_rfl
theorem zero87_at (i : Nat) (h : i < 160) : Try.zeroCells87[4 + i]? = some (.int .u64 0) := by
  rw [zero87, Array.getElem?_append_right (by simp), Array.getElem?_replicate]
  simp
  omega
theorem cell_new (w : World) (xs : Array Value) (T : TypeId) (i : Nat) : (w.alloc (.cells xs T)).cell? ⟨w.heap.size, i, none⟩ = xs[i]? := by
  simp [go_sem]
theorem rnew_any (w : World) : Calls Try.prog 9 #[] w fun e w' => ∃ b, e = .returned (.pointer (some ⟨b, 0, none⟩)) ∧ RomD b false w' w' ∧ Below w.heap.size w w' ∧ w.heap.size ≤ b := by
  go_enter Try.func9, Try.ntmps9
  go_wp2
  refine bodyPost_ret (v := .pointer (some ⟨w.heap.size, 0, none⟩)) (by simp [results, Try.results9, go_sem]) rfl ⟨_, rfl, ⟨?_, ?_, ?_, ?_, ?_, fun i => by simp [go_sem], by simp, rfl, rfl, rfl, Nat.le_refl _, fun _ _ _ _ => rfl⟩, below_allocs _ _, Nat.le_refl _⟩
  · rw [cell_new, zero87]
    rfl
  · rw [cell_new, zero87]
    rfl
  · rw [cell_new, zero87]
    rfl
  · intro i hi
    rw [cell_new]
    exact zero87_at i (by omega)
  · intro i hi
    rw [cell_new, show 68 + i = 4 + (64 + i) by omega]
    exact zero87_at (64 + i) (by omega)
end Go.Proofs.Yteocibahclpegaa

/- Contracts: radicandlaw17's example. -/
set_option linter.unusedVariables false
set_option linter.unusedSimpArgs false
set_option maxRecDepth 8000
namespace Go.Proofs.Yteocibahclpegaa
open Go.RowKit Plain

theorem rom_under {b : Nat} {d : Bool} {w w1 W : World} (h : RomD b d w1 W) (hb : Below w.heap.size w w1) (hl : w.heap.size ≤ b) : Below w.heap.size w W := h.on.under hb hl hl (Nat.le_refl _)

set_option maxHeartbeats 2000000 in
theorem awake17_walk (w : World)
    (HN : Hid (∀ w, Calls Try.prog 9 #[] w fun e w' => ∃ b, e = .returned (.pointer (some ⟨b, 0, none⟩)) ∧ RomD b false w' w' ∧ Below w.heap.size w w' ∧ w.heap.size ≤ b))
    (HR : Hid (∀ b w W, RomD b false w W → Calls Try.prog 10 #[.pointer (some ⟨b, 0, none⟩), .int .i64 0] W fun e w' => e = .returned (.tuple #[.int .u64 1016, .bool true]) ∧ RomD b true w w'))
    (HT : Hid (∀ b w W, RomD b true w W → Calls Try.prog 11 #[.pointer (some ⟨b, 0, none⟩), .int .i64 32] W fun e w' => e = .returned (.tuple #[.int .u64 1016, .bool true]) ∧ RomD b true w w')) :
    Calls Try.prog 14 #[] w fun e w' => e = .returned (.bool true) ∧ Below w.heap.size w w' := by
  go_enter Try.func14, Try.ntmps14
  go_wp2_with fail
  refine (HN.out _).mono ?_
  rintro e w1 ⟨b, rfl, hr, hb1, hl⟩
  have HR1 := hide (HR.out b w1 w1 hr)
  have HB := hide (show Below w.heap.size w w1 ∧ w.heap.size ≤ b from ⟨hb1, hl⟩)
  clear hr hb1 hl HN HR
  go_wp2_with fail
  refine HR1.out.mono ?_
  rintro e w2 ⟨rfl, h2⟩
  have HT1 := hide (HT.out b w1 w2 h2)
  clear h2 HT HR1
  go_wp2_with fail
  refine HT1.out.mono ?_
  rintro e w3 ⟨rfl, h3⟩
  have HB3 := hide (rom_under h3 HB.out.1 HB.out.2)
  clear h3 HT1 HB
  go_wp2
  go_ret
  exact ⟨rfl, HB3.out⟩
theorem awake17_any (w : World) : Calls Try.prog 14 #[] w fun e w' => e = .returned (.bool true) ∧ Below w.heap.size w w' := by
  refine awake17_walk w (hide fun w => rnew_any w) (hide fun b w W h => ?_) (hide fun b w W h => ?_)
  · have := recip_any b false 0 w W h
    rw [show rcV 0 = 1016 by decide +kernel, show rcO 0 = true by decide +kernel] at this
    exact this
  · have := rootm_any b true 32 (by decide) w W h
    rw [show rtV 32 = 1016 by decide +kernel, show rtO 32 = true by decide +kernel] at this
    exact this

/-- The places at which a number's guesses hang. -/
def gI (a : Nat) : Int := if Go.bitLen a = 128 then ((a / 2 ^ 121 : Nat) : Int) - 64 else -1
def gR (a : Nat) : Int := if Go.bitLen a = 256 ∨ Go.bitLen a = 255 then ((a / 2 ^ 249 : Nat) : Int) else -1
theorem gI_lt {a : Nat} (h : Go.bitLen a = 128) : a / 2 ^ 121 < 256 := by
  have h1 : ¬ 2 ^ 128 ≤ a := fun h2 => by have := (bitLen_above a 128).2 h2; omega
  exact Nat.div_lt_of_lt_mul (Nat.lt_of_not_le fun h2 => h1 (Nat.le_trans (by decide +kernel) h2))
theorem gR_lt {a : Nat} (h : Go.bitLen a = 256 ∨ Go.bitLen a = 255) : a / 2 ^ 249 < 256 := by
  have h1 : ¬ 2 ^ 256 ≤ a := fun h2 => by have := (bitLen_above a 256).2 h2; omega
  exact Nat.div_lt_of_lt_mul (Nat.lt_of_not_le fun h2 => h1 (Nat.le_trans (by decide +kernel) h2))
/-- Guess, over any rom of which what Recip tells is known. -/
theorem guess_over (p : Value) (a x : Nat) (ok : Bool) (ha : a < QQ) (Q : World → Prop) (w : World)
    (HR : ∀ V, Below w.heap.size w V → Calls Try.prog 10 #[p, .int .i64 (gI a)] V fun e w' => e = .returned (.tuple #[.int .u64 (x : Nat), .bool ok]) ∧ Q w') :
    Calls Try.prog 15 #[p, .agg #[.int .u64 (dgl (a) 0 : Nat), .int .u64 (dgl (a) 1 : Nat), .int .u64 (dgl (a) 2 : Nat), .int .u64 (dgl (a) 3 : Nat), .int .u64 (dgl (a) 4 : Nat), .int .u64 (dgl (a) 5 : Nat), .int .u64 (dgl (a) 6 : Nat), .int .u64 (dgl (a) 7 : Nat)]] w fun e w' => e = .returned (.tuple #[.int .u64 (x : Nat), .bool ok]) ∧ Q w' := by
  by_cases h : Go.bitLen a = 128
  · have hf := gI_lt h
    have e1 : gI a = ((a / 2 ^ 121 : Nat) : Int) - 64 := by unfold gI; rw [if_pos h]
    rw [e1] at HR
    refine guess_yes p a x ok ((a / 2 ^ 121 : Nat) : Int) _ ?_ Q (hide fun w => ?_) (hide fun w => from_any a 121 ha (by omega) hf w) w (hide HR)
    · generalize a / 2 ^ 121 = q at *
      rw [IntKind.wrap_i64]
      omega
    · have := wideLen_any a ha w
      rw [h] at this
      exact this
  · have e1 : gI a = -1 := by unfold gI; rw [if_neg h]
    rw [e1] at HR
    exact guess_no p a x ok ((Go.bitLen a : Nat) : Int) (by rw [beq_eq_false_iff_ne]; omega) Q (hide fun w => wideLen_any a ha w) w (hide HR)
theorem guessR_over (p : Value) (a x : Nat) (ok : Bool) (ha : a < QQ) (Q : World → Prop) (w : World)
    (HR : ∀ V, Below w.heap.size w V → Calls Try.prog 11 #[p, .int .i64 (gR a)] V fun e w' => e = .returned (.tuple #[.int .u64 (x : Nat), .bool ok]) ∧ Q w') :
    Calls Try.prog 16 #[p, .agg #[.int .u64 (dgl (a) 0 : Nat), .int .u64 (dgl (a) 1 : Nat), .int .u64 (dgl (a) 2 : Nat), .int .u64 (dgl (a) 3 : Nat), .int .u64 (dgl (a) 4 : Nat), .int .u64 (dgl (a) 5 : Nat), .int .u64 (dgl (a) 6 : Nat), .int .u64 (dgl (a) 7 : Nat)]] w fun e w' => e = .returned (.tuple #[.int .u64 (x : Nat), .bool ok]) ∧ Q w' := by
  by_cases h : Go.bitLen a = 256 ∨ Go.bitLen a = 255
  · have hf := gR_lt h
    have e1 : gR a = ((a / 2 ^ 249 : Nat) : Int) := by unfold gR; rw [if_pos h]
    rw [e1] at HR
    exact guessR_yes p a x ok ((Go.bitLen a : Nat) : Int) ((a / 2 ^ 249 : Nat) : Int) (by omega) Q (hide fun w => wideLen_any a ha w) (hide fun w => from_any a 249 ha (by omega) hf w) w (hide HR)
  · have e1 : gR a = -1 := by unfold gR; rw [if_neg h]
    rw [e1] at HR
    exact guessR_no p a x ok ((Go.bitLen a : Nat) : Int) (by rw [beq_eq_false_iff_ne]; omega) (by rw [beq_eq_false_iff_ne]; omega) Q (hide fun w => wideLen_any a ha w) w (hide HR)
theorem gR_bd (a : Nat) : -1 ≤ gR a ∧ gR a < 256 := by
  unfold gR
  split
  · rename_i h
    have := gR_lt h
    generalize a / 2 ^ 249 = q at *
    omega
  · omega
theorem guess_any (b : Nat) (d : Bool) (a : Nat) (ha : a < QQ) (w W : World) (H : RomD b d w W) :
    Calls Try.prog 15 #[.pointer (some ⟨b, 0, none⟩), .agg #[.int .u64 (dgl (a) 0 : Nat), .int .u64 (dgl (a) 1 : Nat), .int .u64 (dgl (a) 2 : Nat), .int .u64 (dgl (a) 3 : Nat), .int .u64 (dgl (a) 4 : Nat), .int .u64 (dgl (a) 5 : Nat), .int .u64 (dgl (a) 6 : Nat), .int .u64 (dgl (a) 7 : Nat)]] W fun e w' => e = .returned (.tuple #[.int .u64 (rcV (gI a) : Nat), .bool (rcO (gI a))]) ∧ RomD b true w w' :=
  guess_over _ a _ _ ha (fun w' => RomD b true w w') W fun V hV => recip_any b d (gI a) w V (H.below hV)
theorem guessR_any (b : Nat) (d : Bool) (a : Nat) (ha : a < QQ) (w W : World) (H : RomD b d w W) :
    Calls Try.prog 16 #[.pointer (some ⟨b, 0, none⟩), .agg #[.int .u64 (dgl (a) 0 : Nat), .int .u64 (dgl (a) 1 : Nat), .int .u64 (dgl (a) 2 : Nat), .int .u64 (dgl (a) 3 : Nat), .int .u64 (dgl (a) 4 : Nat), .int .u64 (dgl (a) 5 : Nat), .int .u64 (dgl (a) 6 : Nat), .int .u64 (dgl (a) 7 : Nat)]] W fun e w' => e = .returned (.tuple #[.int .u64 (rtV (gR a) : Nat), .bool (rtO (gR a))]) ∧ RomD b true w w' :=
  guessR_over _ a _ _ ha (fun w' => RomD b true w w') W fun V hV => rootm_any b d (gR a) (by have := gR_bd a; omega) w V (H.below hV)
theorem guess_nil (a : Nat) (ha : a < QQ) (w : World) :
    Calls Try.prog 15 #[.pointer none, .agg #[.int .u64 (dgl (a) 0 : Nat), .int .u64 (dgl (a) 1 : Nat), .int .u64 (dgl (a) 2 : Nat), .int .u64 (dgl (a) 3 : Nat), .int .u64 (dgl (a) 4 : Nat), .int .u64 (dgl (a) 5 : Nat), .int .u64 (dgl (a) 6 : Nat), .int .u64 (dgl (a) 7 : Nat)]] w fun e w' => e = .returned (.tuple #[.int .u64 0, .bool false]) ∧ Below w.heap.size w w' :=
  guess_over _ a 0 _ ha (fun w' => Below w.heap.size w w') w fun V hV => (recip_nil (gI a) V).mono fun e w' h => ⟨h.1, by rw [h.2]; exact hV⟩
theorem guessR_nil (a : Nat) (ha : a < QQ) (w : World) :
    Calls Try.prog 16 #[.pointer none, .agg #[.int .u64 (dgl (a) 0 : Nat), .int .u64 (dgl (a) 1 : Nat), .int .u64 (dgl (a) 2 : Nat), .int .u64 (dgl (a) 3 : Nat), .int .u64 (dgl (a) 4 : Nat), .int .u64 (dgl (a) 5 : Nat), .int .u64 (dgl (a) 6 : Nat), .int .u64 (dgl (a) 7 : Nat)]] w fun e w' => e = .returned (.tuple #[.int .u64 0, .bool false]) ∧ Below w.heap.size w w' :=
  guessR_over _ a 0 _ ha (fun w' => Below w.heap.size w w') w fun V hV => (rootm_nil (gR a) V).mono fun e w' h => ⟨h.1, by rw [h.2]; exact hV⟩
end Go.Proofs.Yteocibahclpegaa

/- For all words the law radicandlaw17.RomGuesses returns true. -/
set_option linter.unusedVariables false
set_option linter.unusedSimpArgs false
set_option maxRecDepth 8000
namespace Go.Proofs.Yteocibahclpegaa
open Go.RowKit Plain

/-- What the law goes by: two words in their boxes, two numbers in theirs, a rom. -/
structure GsSt (xh xl yh yl D N b p6 p7 : Nat) (w w1 W : World) : Prop where
  a0 : W.cell? ⟨w.heap.size, 0, none⟩ = some (.int .u64 (xh : Nat))
  a1 : W.cell? ⟨w.heap.size, 1, none⟩ = some (.int .u64 (xl : Nat))
  c0 : W.cell? ⟨w.heap.size + 1, 0, none⟩ = some (.int .u64 (yh : Nat))
  c1 : W.cell? ⟨w.heap.size + 1, 1, none⟩ = some (.int .u64 (yl : Nat))
  l6 : LiesF W p6 (dgl D)
  l7 : LiesF W p7 (dgl N)
  bel : Below w.heap.size w W
  sz : w.heap.size + 1 < W.heap.size
  o : w.heap.size + 1 < b
  o6 : p6 ≠ b
  o7 : p7 ≠ b
  rm : ∃ d w0, RomD b d w0 W
section
variable {xh xl yh yl D N b p6 p7 : Nat} {w w1 W W' : World}
theorem GsSt.below (h : GsSt xh xl yh yl D N b p6 p7 w w1 W) (hb : Below W.heap.size W W') : GsSt xh xl yh yl D N b p6 p7 w w1 W' :=
  ⟨(hb.cell (p := ⟨w.heap.size, 0, none⟩) (by have := h.sz; show w.heap.size < _; omega)).trans h.a0, (hb.cell (p := ⟨w.heap.size, 1, none⟩) (by have := h.sz; show w.heap.size < _; omega)).trans h.a1,
   (hb.cell (p := ⟨w.heap.size + 1, 0, none⟩) h.sz).trans h.c0, (hb.cell (p := ⟨w.heap.size + 1, 1, none⟩) h.sz).trans h.c1, h.l6.below hb, h.l7.below hb, h.bel.trans (hb.mono (by have := h.sz; omega)), Nat.lt_of_lt_of_le h.sz hb.size, h.o, h.o6, h.o7, by obtain ⟨d, w0, hr⟩ := h.rm; exact ⟨d, w0, hr.below hb⟩⟩
theorem GsSt.next (h : GsSt xh xl yh yl D N b p6 p7 w w1 W) (hr : RomD b true W W') : GsSt xh xl yh yl D N b p6 p7 w w1 W' := by
  have hs := h.sz
  have ho := h.o
  exact ⟨(hr.on.cell (b := w.heap.size) (i := 0) (by omega) (by omega) (by omega)).trans h.a0, (hr.on.cell (b := w.heap.size) (i := 1) (by omega) (by omega) (by omega)).trans h.a1,
    (hr.on.cell (b := w.heap.size + 1) (i := 0) hs (by omega) (by omega)).trans h.c0, (hr.on.cell (b := w.heap.size + 1) (i := 1) hs (by omega) (by omega)).trans h.c1,
    hr.on.lies h.l6 h.o6 h.o6, hr.on.lies h.l7 h.o7 h.o7, hr.on.under h.bel (by omega) (by omega) (Nat.le_refl _), Nat.lt_of_lt_of_le hs hr.on.size, h.o, h.o6, h.o7, ⟨true, W, hr⟩⟩
end
theorem gs_two (xh xl yh yl : Nat) (w : World) (e1 e2 : TypeId) :
    ((w.alloc (.cells #[.int .u64 (xh : Nat), .int .u64 (xl : Nat)] e1)).alloc (.cells #[.int .u64 (yh : Nat), .int .u64 (yl : Nat)] e2)).cell? ⟨w.heap.size, 0, none⟩ = some (.int .u64 (xh : Nat)) ∧
    ((w.alloc (.cells #[.int .u64 (xh : Nat), .int .u64 (xl : Nat)] e1)).alloc (.cells #[.int .u64 (yh : Nat), .int .u64 (yl : Nat)] e2)).cell? ⟨w.heap.size, 1, none⟩ = some (.int .u64 (xl : Nat)) ∧
    ((w.alloc (.cells #[.int .u64 (xh : Nat), .int .u64 (xl : Nat)] e1)).alloc (.cells #[.int .u64 (yh : Nat), .int .u64 (yl : Nat)] e2)).cell? ⟨w.heap.size + 1, 0, none⟩ = some (.int .u64 (yh : Nat)) ∧
    ((w.alloc (.cells #[.int .u64 (xh : Nat), .int .u64 (xl : Nat)] e1)).alloc (.cells #[.int .u64 (yh : Nat), .int .u64 (yl : Nat)] e2)).cell? ⟨w.heap.size + 1, 1, none⟩ = some (.int .u64 (yl : Nat)) ∧
    w.heap.size + 1 < ((w.alloc (.cells #[.int .u64 (xh : Nat), .int .u64 (xl : Nat)] e1)).alloc (.cells #[.int .u64 (yh : Nat), .int .u64 (yl : Nat)] e2)).heap.size ∧
    Below w.heap.size w ((w.alloc (.cells #[.int .u64 (xh : Nat), .int .u64 (xl : Nat)] e1)).alloc (.cells #[.int .u64 (yh : Nat), .int .u64 (yl : Nat)] e2)) :=
  ⟨by simp [go_sem], by simp [go_sem], by simp [go_sem], by simp [go_sem], by simp, below_trans (below_allocs _ _) (below_allocs _ _)⟩
theorem shr57 (x : Nat) : Op.shift .shr .u64 ((x : Nat) : Int) .u64 57 = pure (.int .u64 ((x / 2 ^ 57 : Nat) : Int)) := by
  rw [Go.shift_shr_any _ _ _ _ (by decide)]
  have e : min (57 : Int).toNat IntKind.u64.bits = 57 := by decide
  rw [e, Int.natCast_ediv]
  rfl
set_option maxRecDepth 100000 in
set_option maxHeartbeats 8000000 in
theorem romGuesses_NN (xh xl yh yl D N : Nat) (w : World)
    (H2 : Hid ((#[.int .u64 (xl : Nat), .int .u64 (xh : Nat), .int .u64 0, .int .u64 0, .int .u64 0, .int .u64 0, .int .u64 0, .int .u64 0] : Array Value) = #[.int .u64 (dgl (D) 0 : Nat), .int .u64 (dgl (D) 1 : Nat), .int .u64 (dgl (D) 2 : Nat), .int .u64 (dgl (D) 3 : Nat), .int .u64 (dgl (D) 4 : Nat), .int .u64 (dgl (D) 5 : Nat), .int .u64 (dgl (D) 6 : Nat), .int .u64 (dgl (D) 7 : Nat)]))
    (H4 : Hid ((#[.int .u64 (xl : Nat), .int .u64 (xh : Nat), .int .u64 (yl : Nat), .int .u64 (yh : Nat), .int .u64 0, .int .u64 0, .int .u64 0, .int .u64 0] : Array Value) = #[.int .u64 (dgl (N) 0 : Nat), .int .u64 (dgl (N) 1 : Nat), .int .u64 (dgl (N) 2 : Nat), .int .u64 (dgl (N) 3 : Nat), .int .u64 (dgl (N) 4 : Nat), .int .u64 (dgl (N) 5 : Nat), .int .u64 (dgl (N) 6 : Nat), .int .u64 (dgl (N) 7 : Nat)]))
    (HN : Hid (∀ w, Calls Try.prog 9 #[] w fun e w' => ∃ b, e = .returned (.pointer (some ⟨b, 0, none⟩)) ∧ RomD b false w' w' ∧ Below w.heap.size w w' ∧ w.heap.size ≤ b))
    (HG : Hid (∀ b d w W, RomD b d w W → Calls Try.prog 15 #[.pointer (some ⟨b, 0, none⟩), .agg #[.int .u64 (dgl (D) 0 : Nat), .int .u64 (dgl (D) 1 : Nat), .int .u64 (dgl (D) 2 : Nat), .int .u64 (dgl (D) 3 : Nat), .int .u64 (dgl (D) 4 : Nat), .int .u64 (dgl (D) 5 : Nat), .int .u64 (dgl (D) 6 : Nat), .int .u64 (dgl (D) 7 : Nat)]] W fun e w' => e = .returned (.tuple #[.int .u64 0, .bool false]) ∧ RomD b true w w'))
    (HK : Hid (∀ b d w W, RomD b d w W → Calls Try.prog 16 #[.pointer (some ⟨b, 0, none⟩), .agg #[.int .u64 (dgl (N) 0 : Nat), .int .u64 (dgl (N) 1 : Nat), .int .u64 (dgl (N) 2 : Nat), .int .u64 (dgl (N) 3 : Nat), .int .u64 (dgl (N) 4 : Nat), .int .u64 (dgl (N) 5 : Nat), .int .u64 (dgl (N) 6 : Nat), .int .u64 (dgl (N) 7 : Nat)]] W fun e w' => e = .returned (.tuple #[.int .u64 0, .bool false]) ∧ RomD b true w w'))
    (HAW : Hid (∀ w, Calls Try.prog 14 #[] w fun e w' => e = .returned (.bool true) ∧ Below w.heap.size w w'))
    (hx : Hid ((xh : Int) < 9223372036854775808))
    (hy : Hid ((yh : Int) < 4611686018427387904)) :
    Calls Try.prog 4 #[.agg #[.int .u64 (xh : Nat), .int .u64 (xl : Nat)], .agg #[.int .u64 (yh : Nat), .int .u64 (yl : Nat)]] w fun e w' => e = .returned (.bool true) ∧ Below w.heap.size w w' := by
  have HS0 := hide (gs_two xh xl yh yl w 30 30)
  go_enter Try.func4, Try.ntmps4
  go_wp2_with fail
  refine (HN.out _).mono ?_
  rintro e w1 ⟨b, rfl, hr1, hb1, hl1⟩
  have hs0 : w.heap.size + 1 < w1.heap.size := Nat.lt_of_lt_of_le HS0.out.2.2.2.2.1 hb1.size
  have hob : w.heap.size + 1 < b := Nat.lt_of_lt_of_le HS0.out.2.2.2.2.1 hl1
  have hsz := HS0.out.2.2.2.2.1
  have a0 : w1.cell? ⟨w.heap.size, 0, none⟩ = some (.int .u64 (xh : Nat)) := (hb1.cell (p := ⟨w.heap.size, 0, none⟩) (Nat.lt_of_succ_lt hsz)).trans HS0.out.1
  have a1 : w1.cell? ⟨w.heap.size, 1, none⟩ = some (.int .u64 (xl : Nat)) := (hb1.cell (p := ⟨w.heap.size, 1, none⟩) (Nat.lt_of_succ_lt hsz)).trans HS0.out.2.1
  have c0 : w1.cell? ⟨w.heap.size + 1, 0, none⟩ = some (.int .u64 (yh : Nat)) := (hb1.cell (p := ⟨w.heap.size + 1, 0, none⟩) hsz).trans HS0.out.2.2.1
  have c1 : w1.cell? ⟨w.heap.size + 1, 1, none⟩ = some (.int .u64 (yl : Nat)) := (hb1.cell (p := ⟨w.heap.size + 1, 1, none⟩) hsz).trans HS0.out.2.2.2.1
  have HB1 := hide (show Below w.heap.size w w1 from below_trans HS0.out.2.2.2.2.2 hb1)
  have HR1 := hide hr1
  have HO := hide (show w.heap.size + 1 < w1.heap.size ∧ w.heap.size + 1 < b ∧ b < w1.heap.size from ⟨hs0, hob, hr1.lt⟩)
  clear hs0 hob

  clear hb1 hr1 hl1 HN hsz HS0
  go_upto_region 5 with fail
  refine wp_gen (fun W => (W.cell? ⟨w.heap.size, 0, none⟩ = some (.int .u64 (xh : Nat)) ∧ W.cell? ⟨w.heap.size, 1, none⟩ = some (.int .u64 (xl : Nat)) ∧ W.cell? ⟨w.heap.size + 1, 0, none⟩ = some (.int .u64 (yh : Nat)) ∧ W.cell? ⟨w.heap.size + 1, 1, none⟩ = some (.int .u64 (yl : Nat))) ∧ LiesF W w1.heap.size (dgl D) ∧ Below w.heap.size w W ∧ RomD b false w1 W ∧ W.heap.size = w1.heap.size + 1) ?_ ?_
  · have hbw := below_allocs w1 (.cells #[.int .u64 (dgl (D) 0 : Nat), .int .u64 (dgl (D) 1 : Nat), .int .u64 (dgl (D) 2 : Nat), .int .u64 (dgl (D) 3 : Nat), .int .u64 (dgl (D) 4 : Nat), .int .u64 (dgl (D) 5 : Nat), .int .u64 (dgl (D) 6 : Nat), .int .u64 (dgl (D) 7 : Nat)] 32)
    have hl6 := liesF_new w1 (dgl D) 32
    rw [← H2.out] at hl6 hbw
    exact ⟨⟨(hbw.cell (p := ⟨w.heap.size, 0, none⟩) (Nat.lt_of_succ_lt HO.out.1)).trans a0, (hbw.cell (p := ⟨w.heap.size, 1, none⟩) (Nat.lt_of_succ_lt HO.out.1)).trans a1, (hbw.cell (p := ⟨w.heap.size + 1, 0, none⟩) HO.out.1).trans c0, (hbw.cell (p := ⟨w.heap.size + 1, 1, none⟩) HO.out.1).trans c1⟩,
      hl6, below_trans HB1.out hbw, HR1.out.below hbw, by simp⟩
  clear a0 a1 c0 c1
  rintro W5 h5
  have a0 := h5.1.1
  have a1 := h5.1.2.1
  have c0 := h5.1.2.2.1
  have c1 := h5.1.2.2.2
  have H5 := hide h5
  clear h5
  go_upto_region 6 with fail
  refine wp_gen (fun W => (GsSt xh xl yh yl D N b w1.heap.size W5.heap.size w w1 W) ∧ RomD b false w1 W) ?_ ?_
  · have hbw := below_allocs W5 (.cells #[.int .u64 (dgl (N) 0 : Nat), .int .u64 (dgl (N) 1 : Nat), .int .u64 (dgl (N) 2 : Nat), .int .u64 (dgl (N) 3 : Nat), .int .u64 (dgl (N) 4 : Nat), .int .u64 (dgl (N) 5 : Nat), .int .u64 (dgl (N) 6 : Nat), .int .u64 (dgl (N) 7 : Nat)] 32)
    have hl7 := liesF_new W5 (dgl N) 32
    have hl6 := H5.out.2.1.below hbw
    rw [← H4.out] at hl7 hbw hl6
    have ho := HO.out
    have hs5 := H5.out.2.2.2.2
    exact ⟨⟨(hbw.cell (p := ⟨w.heap.size, 0, none⟩) (show w.heap.size < W5.heap.size by omega)).trans a0, (hbw.cell (p := ⟨w.heap.size, 1, none⟩) (show w.heap.size < W5.heap.size by omega)).trans a1, (hbw.cell (p := ⟨w.heap.size + 1, 0, none⟩) (show w.heap.size + 1 < W5.heap.size by omega)).trans c0, (hbw.cell (p := ⟨w.heap.size + 1, 1, none⟩) (show w.heap.size + 1 < W5.heap.size by omega)).trans c1,
      hl6, hl7, below_trans H5.out.2.2.1 hbw, Nat.lt_of_lt_of_le (show w.heap.size + 1 < W5.heap.size by omega) hbw.size, ho.2.1, by omega, by omega, ⟨_, _, H5.out.2.2.2.1.below hbw⟩⟩, H5.out.2.2.2.1.below hbw⟩
  have HP := hide (show W5.heap.size = w1.heap.size + 1 from H5.out.2.2.2.2)
  clear a0 a1 c0 c1 HO HB1 HR1 H4 H5 H2
  generalize w1.heap.size = p6 at *
  generalize W5.heap.size = p7 at *
  rintro W2 ⟨h2, hr2⟩
  have HS := hide h2
  have HG1 := hide (HG.out b false W2 W2 (RomG.again hr2))
  have hl6 := h2.l6.1
  have a0 := h2.a0
  have a1 := h2.a1
  have c0 := h2.c0
  clear h2 hr2
  go_wp2_with fail
  refine HG1.out.mono ?_
  rintro e w3 ⟨rfl, h3⟩
  replace HS := hide (HS.out.next h3)
  have HK1 := hide (HK.out b true w3 w3 (RomG.again h3))
  clear h3 HG1 hl6 a0 a1 c0
  have hl7 := HS.out.l7.1
  have a0 := HS.out.a0
  have a1 := HS.out.a1
  have c0 := HS.out.c0
  go_wp2_with fail
  refine HK1.out.mono ?_
  rintro e w4 ⟨rfl, h4⟩
  replace HS := hide (HS.out.next h4)
  have HRM := hide h4
  clear HK1 hl7 a0 a1 c0 h4
  have a0 := HS.out.a0
  have c0 := HS.out.c0
  have hx1 := hx.out
  have hy1 := hy.out
  go_wp2_with fail
  refine (HAW.out _).mono ?_
  rintro e w6 ⟨rfl, hb6⟩
  have HB6 := hide (below_trans HS.out.bel hb6)
  clear hb6 HAW
  go_wp2
  go_ret
  exact ⟨rfl, HB6.out⟩
set_option maxRecDepth 100000 in
set_option maxHeartbeats 8000000 in
theorem romGuesses_YN (xh xl yh yl D N x x6 q PX BX0 BX1 : Nat) (i cx0 cx1 : Int) (w : World)
    (H2 : Hid ((#[.int .u64 (xl : Nat), .int .u64 (xh : Nat), .int .u64 0, .int .u64 0, .int .u64 0, .int .u64 0, .int .u64 0, .int .u64 0] : Array Value) = #[.int .u64 (dgl (D) 0 : Nat), .int .u64 (dgl (D) 1 : Nat), .int .u64 (dgl (D) 2 : Nat), .int .u64 (dgl (D) 3 : Nat), .int .u64 (dgl (D) 4 : Nat), .int .u64 (dgl (D) 5 : Nat), .int .u64 (dgl (D) 6 : Nat), .int .u64 (dgl (D) 7 : Nat)]))
    (H4 : Hid ((#[.int .u64 (xl : Nat), .int .u64 (xh : Nat), .int .u64 (yl : Nat), .int .u64 (yh : Nat), .int .u64 0, .int .u64 0, .int .u64 0, .int .u64 0] : Array Value) = #[.int .u64 (dgl (N) 0 : Nat), .int .u64 (dgl (N) 1 : Nat), .int .u64 (dgl (N) 2 : Nat), .int .u64 (dgl (N) 3 : Nat), .int .u64 (dgl (N) 4 : Nat), .int .u64 (dgl (N) 5 : Nat), .int .u64 (dgl (N) 6 : Nat), .int .u64 (dgl (N) 7 : Nat)]))
    (HN : Hid (∀ w, Calls Try.prog 9 #[] w fun e w' => ∃ b, e = .returned (.pointer (some ⟨b, 0, none⟩)) ∧ RomD b false w' w' ∧ Below w.heap.size w w' ∧ w.heap.size ≤ b))
    (HG : Hid (∀ b d w W, RomD b d w W → Calls Try.prog 15 #[.pointer (some ⟨b, 0, none⟩), .agg #[.int .u64 (dgl (D) 0 : Nat), .int .u64 (dgl (D) 1 : Nat), .int .u64 (dgl (D) 2 : Nat), .int .u64 (dgl (D) 3 : Nat), .int .u64 (dgl (D) 4 : Nat), .int .u64 (dgl (D) 5 : Nat), .int .u64 (dgl (D) 6 : Nat), .int .u64 (dgl (D) 7 : Nat)]] W fun e w' => e = .returned (.tuple #[.int .u64 (x : Nat), .bool true]) ∧ RomD b true w w'))
    (HK : Hid (∀ b d w W, RomD b d w W → Calls Try.prog 16 #[.pointer (some ⟨b, 0, none⟩), .agg #[.int .u64 (dgl (N) 0 : Nat), .int .u64 (dgl (N) 1 : Nat), .int .u64 (dgl (N) 2 : Nat), .int .u64 (dgl (N) 3 : Nat), .int .u64 (dgl (N) 4 : Nat), .int .u64 (dgl (N) 5 : Nat), .int .u64 (dgl (N) 6 : Nat), .int .u64 (dgl (N) 7 : Nat)]] W fun e w' => e = .returned (.tuple #[.int .u64 0, .bool false]) ∧ RomD b true w w'))
    (HAW : Hid (∀ w, Calls Try.prog 14 #[] w fun e w' => e = .returned (.bool true) ∧ Below w.heap.size w w'))
    (hx : Hid (decide ((xh : Int) < 9223372036854775808) = false)) (HQ : Hid (Op.shift .shr .u64 ((xh : Nat) : Int) .u64 57 = pure (.int .u64 ((q : Nat) : Int)) ∧ IntKind.i64.wrap (q : Int) = (q : Int) ∧ IntKind.i64.wrap ((q : Int) - 64) = i)) (HX6 : Hid (IntKind.u64.wrap (64 * (x : Int)) = (x6 : Int))) (HCX : Hid (decide (cx0 < 0) = false ∧ decide (0 < cx1) = false))
    (HRX : Hid (∀ w, Calls Try.prog 12 #[.int .i64 i] w fun e w' => e = .returned (.tuple #[.int .u64 (x : Nat), .bool true]) ∧ w' = w))
    (HSM : Hid (∀ w, Calls Try.prog 18 #[.int .u64 (x6 : Nat)] w fun e w' => ∃ v, e = .returned v ∧ BigV w' v x6 2 ∧ Below w.heap.size w w'))
    (HBD : Hid (∀ w, Calls Try.prog 19 #[.agg #[.int .u64 (dgl (D) 0 : Nat), .int .u64 (dgl (D) 1 : Nat), .int .u64 (dgl (D) 2 : Nat), .int .u64 (dgl (D) 3 : Nat), .int .u64 (dgl (D) 4 : Nat), .int .u64 (dgl (D) 5 : Nat), .int .u64 (dgl (D) 6 : Nat), .int .u64 (dgl (D) 7 : Nat)]] w fun e w' => ∃ v, e = .returned v ∧ BigV w' v D 40 ∧ Below w.heap.size w w'))
    (HMX : Hid (∀ u v w, BigV w u x6 2 → BigV w v D 40 → Calls Try.prog 17 #[u, v] w fun e w' => ∃ v', e = .returned v' ∧ BigV w' v' PX 42 ∧ Below w.heap.size w w'))
    (HSX0 : Hid (∀ w, Calls Try.prog 18 #[.int .u64 63] w fun e w' => ∃ v, e = .returned v ∧ BigV w' v 63 2 ∧ Below w.heap.size w w'))
    (HSX1 : Hid (∀ w, Calls Try.prog 18 #[.int .u64 65] w fun e w' => ∃ v, e = .returned v ∧ BigV w' v 65 2 ∧ Below w.heap.size w w'))
    (HHX0 : Hid (∀ u w, BigV w u 63 2 → Calls Try.prog 21 #[u, .int .i64 137] w fun e w' => ∃ v, e = .returned v ∧ BigV w' v BX0 7 ∧ Below w.heap.size w w'))
    (HHX1 : Hid (∀ u w, BigV w u 65 2 → Calls Try.prog 21 #[u, .int .i64 137] w fun e w' => ∃ v, e = .returned v ∧ BigV w' v BX1 7 ∧ Below w.heap.size w w'))
    (HCX0 : Hid (∀ u v w, BigV w u PX 42 → BigV w v BX0 7 → Calls Try.prog 20 #[u, v] w fun e w' => e = .returned (.int .i64 cx0) ∧ w' = w))
    (HCX1 : Hid (∀ u v w, BigV w u PX 42 → BigV w v BX1 7 → Calls Try.prog 20 #[u, v] w fun e w' => e = .returned (.int .i64 cx1) ∧ w' = w))
    (hy : Hid ((yh : Int) < 4611686018427387904)) :
    Calls Try.prog 4 #[.agg #[.int .u64 (xh : Nat), .int .u64 (xl : Nat)], .agg #[.int .u64 (yh : Nat), .int .u64 (yl : Nat)]] w fun e w' => e = .returned (.bool true) ∧ Below w.heap.size w w' := by
  have HS0 := hide (gs_two xh xl yh yl w 30 30)
  go_enter Try.func4, Try.ntmps4
  go_wp2_with fail
  refine (HN.out _).mono ?_
  rintro e w1 ⟨b, rfl, hr1, hb1, hl1⟩
  have hs0 : w.heap.size + 1 < w1.heap.size := Nat.lt_of_lt_of_le HS0.out.2.2.2.2.1 hb1.size
  have hob : w.heap.size + 1 < b := Nat.lt_of_lt_of_le HS0.out.2.2.2.2.1 hl1
  have hsz := HS0.out.2.2.2.2.1
  have a0 : w1.cell? ⟨w.heap.size, 0, none⟩ = some (.int .u64 (xh : Nat)) := (hb1.cell (p := ⟨w.heap.size, 0, none⟩) (Nat.lt_of_succ_lt hsz)).trans HS0.out.1
  have a1 : w1.cell? ⟨w.heap.size, 1, none⟩ = some (.int .u64 (xl : Nat)) := (hb1.cell (p := ⟨w.heap.size, 1, none⟩) (Nat.lt_of_succ_lt hsz)).trans HS0.out.2.1
  have c0 : w1.cell? ⟨w.heap.size + 1, 0, none⟩ = some (.int .u64 (yh : Nat)) := (hb1.cell (p := ⟨w.heap.size + 1, 0, none⟩) hsz).trans HS0.out.2.2.1
  have c1 : w1.cell? ⟨w.heap.size + 1, 1, none⟩ = some (.int .u64 (yl : Nat)) := (hb1.cell (p := ⟨w.heap.size + 1, 1, none⟩) hsz).trans HS0.out.2.2.2.1
  have HB1 := hide (show Below w.heap.size w w1 from below_trans HS0.out.2.2.2.2.2 hb1)
  have HR1 := hide hr1
  have HO := hide (show w.heap.size + 1 < w1.heap.size ∧ w.heap.size + 1 < b ∧ b < w1.heap.size from ⟨hs0, hob, hr1.lt⟩)
  clear hs0 hob

  clear hb1 hr1 hl1 HN hsz HS0
  go_upto_region 5 with fail
  refine wp_gen (fun W => (W.cell? ⟨w.heap.size, 0, none⟩ = some (.int .u64 (xh : Nat)) ∧ W.cell? ⟨w.heap.size, 1, none⟩ = some (.int .u64 (xl : Nat)) ∧ W.cell? ⟨w.heap.size + 1, 0, none⟩ = some (.int .u64 (yh : Nat)) ∧ W.cell? ⟨w.heap.size + 1, 1, none⟩ = some (.int .u64 (yl : Nat))) ∧ LiesF W w1.heap.size (dgl D) ∧ Below w.heap.size w W ∧ RomD b false w1 W ∧ W.heap.size = w1.heap.size + 1) ?_ ?_
  · have hbw := below_allocs w1 (.cells #[.int .u64 (dgl (D) 0 : Nat), .int .u64 (dgl (D) 1 : Nat), .int .u64 (dgl (D) 2 : Nat), .int .u64 (dgl (D) 3 : Nat), .int .u64 (dgl (D) 4 : Nat), .int .u64 (dgl (D) 5 : Nat), .int .u64 (dgl (D) 6 : Nat), .int .u64 (dgl (D) 7 : Nat)] 32)
    have hl6 := liesF_new w1 (dgl D) 32
    rw [← H2.out] at hl6 hbw
    exact ⟨⟨(hbw.cell (p := ⟨w.heap.size, 0, none⟩) (Nat.lt_of_succ_lt HO.out.1)).trans a0, (hbw.cell (p := ⟨w.heap.size, 1, none⟩) (Nat.lt_of_succ_lt HO.out.1)).trans a1, (hbw.cell (p := ⟨w.heap.size + 1, 0, none⟩) HO.out.1).trans c0, (hbw.cell (p := ⟨w.heap.size + 1, 1, none⟩) HO.out.1).trans c1⟩,
      hl6, below_trans HB1.out hbw, HR1.out.below hbw, by simp⟩
  clear a0 a1 c0 c1
  rintro W5 h5
  have a0 := h5.1.1
  have a1 := h5.1.2.1
  have c0 := h5.1.2.2.1
  have c1 := h5.1.2.2.2
  have H5 := hide h5
  clear h5
  go_upto_region 6 with fail
  refine wp_gen (fun W => (GsSt xh xl yh yl D N b w1.heap.size W5.heap.size w w1 W) ∧ RomD b false w1 W) ?_ ?_
  · have hbw := below_allocs W5 (.cells #[.int .u64 (dgl (N) 0 : Nat), .int .u64 (dgl (N) 1 : Nat), .int .u64 (dgl (N) 2 : Nat), .int .u64 (dgl (N) 3 : Nat), .int .u64 (dgl (N) 4 : Nat), .int .u64 (dgl (N) 5 : Nat), .int .u64 (dgl (N) 6 : Nat), .int .u64 (dgl (N) 7 : Nat)] 32)
    have hl7 := liesF_new W5 (dgl N) 32
    have hl6 := H5.out.2.1.below hbw
    rw [← H4.out] at hl7 hbw hl6
    have ho := HO.out
    have hs5 := H5.out.2.2.2.2
    exact ⟨⟨(hbw.cell (p := ⟨w.heap.size, 0, none⟩) (show w.heap.size < W5.heap.size by omega)).trans a0, (hbw.cell (p := ⟨w.heap.size, 1, none⟩) (show w.heap.size < W5.heap.size by omega)).trans a1, (hbw.cell (p := ⟨w.heap.size + 1, 0, none⟩) (show w.heap.size + 1 < W5.heap.size by omega)).trans c0, (hbw.cell (p := ⟨w.heap.size + 1, 1, none⟩) (show w.heap.size + 1 < W5.heap.size by omega)).trans c1,
      hl6, hl7, below_trans H5.out.2.2.1 hbw, Nat.lt_of_lt_of_le (show w.heap.size + 1 < W5.heap.size by omega) hbw.size, ho.2.1, by omega, by omega, ⟨_, _, H5.out.2.2.2.1.below hbw⟩⟩, H5.out.2.2.2.1.below hbw⟩
  have HP := hide (show W5.heap.size = w1.heap.size + 1 from H5.out.2.2.2.2)
  clear a0 a1 c0 c1 HO HB1 HR1 H4 H5 H2
  generalize w1.heap.size = p6 at *
  generalize W5.heap.size = p7 at *
  rintro W2 ⟨h2, hr2⟩
  have HS := hide h2
  have HG1 := hide (HG.out b false W2 W2 (RomG.again hr2))
  have hl6 := h2.l6.1
  have a0 := h2.a0
  have a1 := h2.a1
  have c0 := h2.c0
  clear h2 hr2
  go_wp2_with fail
  refine HG1.out.mono ?_
  rintro e w3 ⟨rfl, h3⟩
  replace HS := hide (HS.out.next h3)
  have HK1 := hide (HK.out b true w3 w3 (RomG.again h3))
  clear h3 HG1 hl6 a0 a1 c0
  have hl7 := HS.out.l7.1
  have a0 := HS.out.a0
  have a1 := HS.out.a1
  have c0 := HS.out.c0
  go_wp2_with fail
  refine HK1.out.mono ?_
  rintro e w4 ⟨rfl, h4⟩
  replace HS := hide (HS.out.next h4)
  have HRM := hide h4
  clear HK1 hl7 a0 a1 c0 h4
  have a0 := HS.out.a0
  have c0 := HS.out.c0
  have hx1 := hx.out
  go_upto_region 11 with fail
  clear hx1
  obtain ⟨hq1, hq2, hq3⟩ := HQ.out
  go_wp2_with fail
  refine (HRX.out _).mono ?_
  rintro e w5 ⟨rfl, rfl⟩
  clear HRX a0 c0 hq1 hq2 hq3
  obtain ⟨hc1, hc2⟩ := HCX.out
  go_upto_region 12 with fail
  have h12 := HS.out
  clear HS
  refine wp_region_grow 7 [(69, .val (.int .u64 (x : Nat))), (70, .val (.int .u64 (x6 : Nat))), (71, .big x6 2), (72, .val (.agg #[.int .u64 (dgl (D) 0 : Nat), .int .u64 (dgl (D) 1 : Nat), .int .u64 (dgl (D) 2 : Nat), .int .u64 (dgl (D) 3 : Nat), .int .u64 (dgl (D) 4 : Nat), .int .u64 (dgl (D) 5 : Nat), .int .u64 (dgl (D) 6 : Nat), .int .u64 (dgl (D) 7 : Nat)])), (73, .big D 40), (74, .big PX 42), (14, .big PX 42)]
    (fun W => GsSt xh xl yh yl D N b p6 p7 w w1 W) mixedOk (by kernel_rfl) (by kernel_rfl) (h12.below (Below.refl _ _).drew) (fun W W' h hb => h.below hb) ?_ ?_
  · refine gSt (gStep_run rfl (gRun_move 8 69 (.inl rfl) rfl (by decide +kernel) (fun v w h => h))) ?_
    refine gSt (gStep_run rfl ?_) ?_
    · intro ρ W hC hc hf hL
      have e69 : ρ (.tmp 69) = .int .u64 (x : Nat) := hL 69 (by decide +kernel)
      have h6 := HX6.out
      simp [go_sem, hc, hf, e69, h6]
      exact ⟨Below.refl _ _, rfl⟩
    refine gSt (gStep_run rfl ?_) ?_
    · intro ρ W hC hc hf hL
      have e70 : ρ (.tmp 70) = .int .u64 (x6 : Nat) := hL 70 (by decide +kernel)
      simp [go_sem, hc, hf, e70]
      refine (HSM.out W).mono ?_
      rintro e w' ⟨v, rfl, hv, hb⟩
      exact ⟨_, rfl, hb, hv⟩
    refine gSt (gStep_run rfl ?_) ?_
    · intro ρ W hC hc hf hL
      have e6 : ρ (.tmp 6) = .pointer (some ⟨p6, 0, none⟩) := hL 6 (by decide +kernel)
      have hl := hC.l6.1
      simp [go_sem, hc, hf, e6, hl]
      exact ⟨Below.refl _ _, rfl⟩
    refine gSt (gStep_run rfl ?_) ?_
    · intro ρ W hC hc hf hL
      have e72 : ρ (.tmp 72) = .agg #[.int .u64 (dgl (D) 0 : Nat), .int .u64 (dgl (D) 1 : Nat), .int .u64 (dgl (D) 2 : Nat), .int .u64 (dgl (D) 3 : Nat), .int .u64 (dgl (D) 4 : Nat), .int .u64 (dgl (D) 5 : Nat), .int .u64 (dgl (D) 6 : Nat), .int .u64 (dgl (D) 7 : Nat)] := hL 72 (by decide +kernel)
      simp [go_sem, hc, hf, e72]
      refine (HBD.out W).mono ?_
      rintro e w' ⟨v, rfl, hv, hb⟩
      exact ⟨_, rfl, hb, hv⟩
    refine gSt (gStep_run rfl ?_) ?_
    · intro ρ W hC hc hf hL
      have b71 : BigV W (ρ (.tmp 71)) (x6) (2) := hL 71 (by decide +kernel)
      have b73 : BigV W (ρ (.tmp 73)) (D) (40) := hL 73 (by decide +kernel)
      simp [go_sem, hc, hf]
      refine (HMX.out _ _ W b71 b73).mono ?_
      rintro e w' ⟨v, rfl, hv, hb⟩
      exact ⟨_, rfl, hb, hv⟩
    refine gSt (gStep_run rfl (gRun_move 74 14 (.inr rfl) rfl (by decide +kernel) (fun v w h => h))) ?_
    exact gSt0
  · intro W hC
    refine gFi 69 rfl ?_
    rintro _ rfl
    refine gFi 70 rfl ?_
    rintro _ rfl
    refine gFi 71 rfl ?_
    rintro u71 b71
    refine gFi 72 rfl ?_
    rintro _ rfl
    refine gFi 73 rfl ?_
    rintro u73 b73
    refine gFi 74 rfl ?_
    rintro u74 b74
    refine gFi 14 rfl ?_
    rintro u14 b14
    refine gFi0 ?_
    simp only [List.drop_succ_cons, List.drop_zero, Act.put, List.setIfInBounds_toArray, List.set_cons_succ, List.set_cons_zero]
    have HSg := hide hC
    clear hC h12
    go_wp2_with fail
    refine (HSX0.out _).mono ?_
    rintro e' wa ⟨va, rfl, hva, hba⟩
    have bp0 := b14.below hba
    replace HSg := hide (HSg.out.below hba)
    clear hba HSX0
    go_wp2_with fail
    refine (HHX0.out _ _ hva).mono ?_
    rintro e' wb ⟨vb, rfl, hvb, hbb⟩
    have bq0 := bp0.below hbb
    replace HSg := hide (HSg.out.below hbb)
    clear hbb HHX0 hva bp0
    go_wp2_with fail
    refine (HCX0.out _ _ _ bq0 hvb).mono ?_
    rintro e' wc ⟨rfl, rfl⟩
    clear HCX0 hvb
    go_wp2_with fail
    refine (HSX1.out _).mono ?_
    rintro e' wa ⟨va, rfl, hva, hba⟩
    have bp1 := bq0.below hba
    replace HSg := hide (HSg.out.below hba)
    clear hba HSX1
    go_wp2_with fail
    refine (HHX1.out _ _ hva).mono ?_
    rintro e' wb ⟨vb, rfl, hvb, hbb⟩
    have bq1 := bp1.below hbb
    replace HSg := hide (HSg.out.below hbb)
    clear hbb HHX1 hva bp1
    go_wp2_with fail
    refine (HCX1.out _ _ _ bq1 hvb).mono ?_
    rintro e' wc ⟨rfl, rfl⟩
    clear HCX1 hvb
  
    have c0 := HSg.out.c0
    have hy1 := hy.out
    go_wp2_with fail
    refine (HAW.out _).mono ?_
    rintro e w6 ⟨rfl, hb6⟩
    have HB6 := hide (below_trans HSg.out.bel hb6)
    clear hb6 HAW
    go_wp2
    go_ret
    exact ⟨rfl, HB6.out⟩
set_option maxRecDepth 100000 in
set_option maxHeartbeats 8000000 in
theorem romGuesses_NY (xh xl yh yl D N y y5 y6 r PY BY0 BY1 g1 g2 : Nat) (cy0 cy1 : Int) (w : World)
    (H2 : Hid ((#[.int .u64 (xl : Nat), .int .u64 (xh : Nat), .int .u64 0, .int .u64 0, .int .u64 0, .int .u64 0, .int .u64 0, .int .u64 0] : Array Value) = #[.int .u64 (dgl (D) 0 : Nat), .int .u64 (dgl (D) 1 : Nat), .int .u64 (dgl (D) 2 : Nat), .int .u64 (dgl (D) 3 : Nat), .int .u64 (dgl (D) 4 : Nat), .int .u64 (dgl (D) 5 : Nat), .int .u64 (dgl (D) 6 : Nat), .int .u64 (dgl (D) 7 : Nat)]))
    (H4 : Hid ((#[.int .u64 (xl : Nat), .int .u64 (xh : Nat), .int .u64 (yl : Nat), .int .u64 (yh : Nat), .int .u64 0, .int .u64 0, .int .u64 0, .int .u64 0] : Array Value) = #[.int .u64 (dgl (N) 0 : Nat), .int .u64 (dgl (N) 1 : Nat), .int .u64 (dgl (N) 2 : Nat), .int .u64 (dgl (N) 3 : Nat), .int .u64 (dgl (N) 4 : Nat), .int .u64 (dgl (N) 5 : Nat), .int .u64 (dgl (N) 6 : Nat), .int .u64 (dgl (N) 7 : Nat)]))
    (HN : Hid (∀ w, Calls Try.prog 9 #[] w fun e w' => ∃ b, e = .returned (.pointer (some ⟨b, 0, none⟩)) ∧ RomD b false w' w' ∧ Below w.heap.size w w' ∧ w.heap.size ≤ b))
    (HG : Hid (∀ b d w W, RomD b d w W → Calls Try.prog 15 #[.pointer (some ⟨b, 0, none⟩), .agg #[.int .u64 (dgl (D) 0 : Nat), .int .u64 (dgl (D) 1 : Nat), .int .u64 (dgl (D) 2 : Nat), .int .u64 (dgl (D) 3 : Nat), .int .u64 (dgl (D) 4 : Nat), .int .u64 (dgl (D) 5 : Nat), .int .u64 (dgl (D) 6 : Nat), .int .u64 (dgl (D) 7 : Nat)]] W fun e w' => e = .returned (.tuple #[.int .u64 0, .bool false]) ∧ RomD b true w w'))
    (HK : Hid (∀ b d w W, RomD b d w W → Calls Try.prog 16 #[.pointer (some ⟨b, 0, none⟩), .agg #[.int .u64 (dgl (N) 0 : Nat), .int .u64 (dgl (N) 1 : Nat), .int .u64 (dgl (N) 2 : Nat), .int .u64 (dgl (N) 3 : Nat), .int .u64 (dgl (N) 4 : Nat), .int .u64 (dgl (N) 5 : Nat), .int .u64 (dgl (N) 6 : Nat), .int .u64 (dgl (N) 7 : Nat)]] W fun e w' => e = .returned (.tuple #[.int .u64 (y : Nat), .bool true]) ∧ RomD b true w w'))
    (HAW : Hid (∀ w, Calls Try.prog 14 #[] w fun e w' => e = .returned (.bool true) ∧ Below w.heap.size w w'))
    (hx : Hid ((xh : Int) < 9223372036854775808))
    (hy : Hid (decide ((yh : Int) < 4611686018427387904) = false)) (HRR : Hid (Op.shift .shr .u64 ((yh : Nat) : Int) .u64 57 = pure (.int .u64 ((r : Nat) : Int)) ∧ IntKind.i64.wrap (r : Int) = (r : Int))) (HY5 : Hid (IntKind.u64.wrap (32 * (y : Int)) = (y5 : Int))) (HY6 : Hid (IntKind.u64.wrap ((y5 : Int) * (y : Int)) = (y6 : Int))) (HCY : Hid (decide (cy0 < 0) = false ∧ decide (0 < cy1) = false))
    (HRY : Hid (∀ w, Calls Try.prog 13 #[.int .i64 (r : Nat)] w fun e w' => e = .returned (.tuple #[.int .u64 (y : Nat), .bool true]) ∧ w' = w))
    (HSN : Hid (∀ w, Calls Try.prog 18 #[.int .u64 (y6 : Nat)] w fun e w' => ∃ v, e = .returned v ∧ BigV w' v y6 2 ∧ Below w.heap.size w w'))
    (HBN : Hid (∀ w, Calls Try.prog 19 #[.agg #[.int .u64 (dgl (N) 0 : Nat), .int .u64 (dgl (N) 1 : Nat), .int .u64 (dgl (N) 2 : Nat), .int .u64 (dgl (N) 3 : Nat), .int .u64 (dgl (N) 4 : Nat), .int .u64 (dgl (N) 5 : Nat), .int .u64 (dgl (N) 6 : Nat), .int .u64 (dgl (N) 7 : Nat)]] w fun e w' => ∃ v, e = .returned v ∧ BigV w' v N 40 ∧ Below w.heap.size w w'))
    (HMY : Hid (∀ u v w, BigV w u y6 2 → BigV w v N 40 → Calls Try.prog 17 #[u, v] w fun e w' => ∃ v', e = .returned v' ∧ BigV w' v' PY 42 ∧ Below w.heap.size w w'))
    (HSY0 : Hid (∀ w, Calls Try.prog 18 #[.int .u64 31] w fun e w' => ∃ v, e = .returned v ∧ BigV w' v 31 2 ∧ Below w.heap.size w w'))
    (HSY1 : Hid (∀ w, Calls Try.prog 18 #[.int .u64 33] w fun e w' => ∃ v, e = .returned v ∧ BigV w' v 33 2 ∧ Below w.heap.size w w'))
    (HHY0 : Hid (∀ u w, BigV w u 31 2 → Calls Try.prog 21 #[u, .int .i64 274] w fun e w' => ∃ v, e = .returned v ∧ BigV w' v BY0 11 ∧ Below w.heap.size w w'))
    (HHY1 : Hid (∀ u w, BigV w u 33 2 → Calls Try.prog 21 #[u, .int .i64 274] w fun e w' => ∃ v, e = .returned v ∧ BigV w' v BY1 11 ∧ Below w.heap.size w w'))
    (HCY0 : Hid (∀ u v w, BigV w u PY 42 → BigV w v BY0 11 → Calls Try.prog 20 #[u, v] w fun e w' => e = .returned (.int .i64 cy0) ∧ w' = w))
    (HCY1 : Hid (∀ u v w, BigV w u PY 42 → BigV w v BY1 11 → Calls Try.prog 20 #[u, v] w fun e w' => e = .returned (.int .i64 cy1) ∧ w' = w))
    (T : Nat) (H3 : Hid ((#[.int .u64 (xl : Nat), .int .u64 (xh : Nat), .int .u64 1, .int .u64 0, .int .u64 0, .int .u64 0, .int .u64 0, .int .u64 0] : Array Value) = #[.int .u64 (dgl (T) 0 : Nat), .int .u64 (dgl (T) 1 : Nat), .int .u64 (dgl (T) 2 : Nat), .int .u64 (dgl (T) 3 : Nat), .int .u64 (dgl (T) 4 : Nat), .int .u64 (dgl (T) 5 : Nat), .int .u64 (dgl (T) 6 : Nat), .int .u64 (dgl (T) 7 : Nat)]))
    (HGL : Hid (∀ b d w W, RomD b d w W → Calls Try.prog 15 #[.pointer (some ⟨b, 0, none⟩), .agg #[.int .u64 (dgl (T) 0 : Nat), .int .u64 (dgl (T) 1 : Nat), .int .u64 (dgl (T) 2 : Nat), .int .u64 (dgl (T) 3 : Nat), .int .u64 (dgl (T) 4 : Nat), .int .u64 (dgl (T) 5 : Nat), .int .u64 (dgl (T) 6 : Nat), .int .u64 (dgl (T) 7 : Nat)]] W fun e w' => e = .returned (.tuple #[.int .u64 (g1 : Nat), .bool false]) ∧ RomD b true w w'))
    (HKL : Hid (∀ b d w W, RomD b d w W → Calls Try.prog 16 #[.pointer (some ⟨b, 0, none⟩), .agg #[.int .u64 0, .int .u64 0, .int .u64 0, .int .u64 0, .int .u64 1, .int .u64 0, .int .u64 0, .int .u64 0]] W fun e w' => e = .returned (.tuple #[.int .u64 (g2 : Nat), .bool false]) ∧ RomD b true w w')) :
    Calls Try.prog 4 #[.agg #[.int .u64 (xh : Nat), .int .u64 (xl : Nat)], .agg #[.int .u64 (yh : Nat), .int .u64 (yl : Nat)]] w fun e w' => e = .returned (.bool true) ∧ Below w.heap.size w w' := by
  have HS0 := hide (gs_two xh xl yh yl w 30 30)
  go_enter Try.func4, Try.ntmps4
  go_wp2_with fail
  refine (HN.out _).mono ?_
  rintro e w1 ⟨b, rfl, hr1, hb1, hl1⟩
  have hs0 : w.heap.size + 1 < w1.heap.size := Nat.lt_of_lt_of_le HS0.out.2.2.2.2.1 hb1.size
  have hob : w.heap.size + 1 < b := Nat.lt_of_lt_of_le HS0.out.2.2.2.2.1 hl1
  have hsz := HS0.out.2.2.2.2.1
  have a0 : w1.cell? ⟨w.heap.size, 0, none⟩ = some (.int .u64 (xh : Nat)) := (hb1.cell (p := ⟨w.heap.size, 0, none⟩) (Nat.lt_of_succ_lt hsz)).trans HS0.out.1
  have a1 : w1.cell? ⟨w.heap.size, 1, none⟩ = some (.int .u64 (xl : Nat)) := (hb1.cell (p := ⟨w.heap.size, 1, none⟩) (Nat.lt_of_succ_lt hsz)).trans HS0.out.2.1
  have c0 : w1.cell? ⟨w.heap.size + 1, 0, none⟩ = some (.int .u64 (yh : Nat)) := (hb1.cell (p := ⟨w.heap.size + 1, 0, none⟩) hsz).trans HS0.out.2.2.1
  have c1 : w1.cell? ⟨w.heap.size + 1, 1, none⟩ = some (.int .u64 (yl : Nat)) := (hb1.cell (p := ⟨w.heap.size + 1, 1, none⟩) hsz).trans HS0.out.2.2.2.1
  have HB1 := hide (show Below w.heap.size w w1 from below_trans HS0.out.2.2.2.2.2 hb1)
  have HR1 := hide hr1
  have HO := hide (show w.heap.size + 1 < w1.heap.size ∧ w.heap.size + 1 < b ∧ b < w1.heap.size from ⟨hs0, hob, hr1.lt⟩)
  clear hs0 hob

  clear hb1 hr1 hl1 HN hsz HS0
  go_upto_region 5 with fail
  refine wp_gen (fun W => (W.cell? ⟨w.heap.size, 0, none⟩ = some (.int .u64 (xh : Nat)) ∧ W.cell? ⟨w.heap.size, 1, none⟩ = some (.int .u64 (xl : Nat)) ∧ W.cell? ⟨w.heap.size + 1, 0, none⟩ = some (.int .u64 (yh : Nat)) ∧ W.cell? ⟨w.heap.size + 1, 1, none⟩ = some (.int .u64 (yl : Nat))) ∧ LiesF W w1.heap.size (dgl D) ∧ Below w.heap.size w W ∧ RomD b false w1 W ∧ W.heap.size = w1.heap.size + 1) ?_ ?_
  · have hbw := below_allocs w1 (.cells #[.int .u64 (dgl (D) 0 : Nat), .int .u64 (dgl (D) 1 : Nat), .int .u64 (dgl (D) 2 : Nat), .int .u64 (dgl (D) 3 : Nat), .int .u64 (dgl (D) 4 : Nat), .int .u64 (dgl (D) 5 : Nat), .int .u64 (dgl (D) 6 : Nat), .int .u64 (dgl (D) 7 : Nat)] 32)
    have hl6 := liesF_new w1 (dgl D) 32
    rw [← H2.out] at hl6 hbw
    exact ⟨⟨(hbw.cell (p := ⟨w.heap.size, 0, none⟩) (Nat.lt_of_succ_lt HO.out.1)).trans a0, (hbw.cell (p := ⟨w.heap.size, 1, none⟩) (Nat.lt_of_succ_lt HO.out.1)).trans a1, (hbw.cell (p := ⟨w.heap.size + 1, 0, none⟩) HO.out.1).trans c0, (hbw.cell (p := ⟨w.heap.size + 1, 1, none⟩) HO.out.1).trans c1⟩,
      hl6, below_trans HB1.out hbw, HR1.out.below hbw, by simp⟩
  clear a0 a1 c0 c1
  rintro W5 h5
  have a0 := h5.1.1
  have a1 := h5.1.2.1
  have c0 := h5.1.2.2.1
  have c1 := h5.1.2.2.2
  have H5 := hide h5
  clear h5
  go_upto_region 6 with fail
  refine wp_gen (fun W => (GsSt xh xl yh yl D N b w1.heap.size W5.heap.size w w1 W) ∧ RomD b false w1 W) ?_ ?_
  · have hbw := below_allocs W5 (.cells #[.int .u64 (dgl (N) 0 : Nat), .int .u64 (dgl (N) 1 : Nat), .int .u64 (dgl (N) 2 : Nat), .int .u64 (dgl (N) 3 : Nat), .int .u64 (dgl (N) 4 : Nat), .int .u64 (dgl (N) 5 : Nat), .int .u64 (dgl (N) 6 : Nat), .int .u64 (dgl (N) 7 : Nat)] 32)
    have hl7 := liesF_new W5 (dgl N) 32
    have hl6 := H5.out.2.1.below hbw
    rw [← H4.out] at hl7 hbw hl6
    have ho := HO.out
    have hs5 := H5.out.2.2.2.2
    exact ⟨⟨(hbw.cell (p := ⟨w.heap.size, 0, none⟩) (show w.heap.size < W5.heap.size by omega)).trans a0, (hbw.cell (p := ⟨w.heap.size, 1, none⟩) (show w.heap.size < W5.heap.size by omega)).trans a1, (hbw.cell (p := ⟨w.heap.size + 1, 0, none⟩) (show w.heap.size + 1 < W5.heap.size by omega)).trans c0, (hbw.cell (p := ⟨w.heap.size + 1, 1, none⟩) (show w.heap.size + 1 < W5.heap.size by omega)).trans c1,
      hl6, hl7, below_trans H5.out.2.2.1 hbw, Nat.lt_of_lt_of_le (show w.heap.size + 1 < W5.heap.size by omega) hbw.size, ho.2.1, by omega, by omega, ⟨_, _, H5.out.2.2.2.1.below hbw⟩⟩, H5.out.2.2.2.1.below hbw⟩
  have HP := hide (show W5.heap.size = w1.heap.size + 1 from H5.out.2.2.2.2)
  clear a0 a1 c0 c1 HO HB1 HR1 H4 H5 H2
  generalize w1.heap.size = p6 at *
  generalize W5.heap.size = p7 at *
  rintro W2 ⟨h2, hr2⟩
  have HS := hide h2
  have HG1 := hide (HG.out b false W2 W2 (RomG.again hr2))
  have hl6 := h2.l6.1
  have a0 := h2.a0
  have a1 := h2.a1
  have c0 := h2.c0
  clear h2 hr2
  go_wp2_with fail
  refine HG1.out.mono ?_
  rintro e w3 ⟨rfl, h3⟩
  replace HS := hide (HS.out.next h3)
  have HK1 := hide (HK.out b true w3 w3 (RomG.again h3))
  clear h3 HG1 hl6 a0 a1 c0
  have hl7 := HS.out.l7.1
  have a0 := HS.out.a0
  have a1 := HS.out.a1
  have c0 := HS.out.c0
  go_wp2_with fail
  refine HK1.out.mono ?_
  rintro e w4 ⟨rfl, h4⟩
  replace HS := hide (HS.out.next h4)
  have HRM := hide h4
  clear HK1 hl7 a0 a1 c0 h4
  have a0 := HS.out.a0
  have c0 := HS.out.c0
  have hx1 := hx.out
  have hy1 := hy.out
  obtain ⟨hr1, hr2⟩ := HRR.out
  go_wp2_with fail
  refine (HRY.out _).mono ?_
  rintro e w6 ⟨rfl, rfl⟩
  clear HRY c0 hr1 hr2 hy1
  obtain ⟨hc3, hc4⟩ := HCY.out
  go_upto_region 18 with fail
  have h12 := HS.out
  clear HS
  refine wp_region_grow 9 [(116, .val (.int .u64 (y : Nat))), (117, .val (.int .u64 (y5 : Nat))), (118, .val (.int .u64 (y : Nat))), (119, .val (.int .u64 (y6 : Nat))), (120, .big y6 2), (121, .val (.agg #[.int .u64 (dgl (N) 0 : Nat), .int .u64 (dgl (N) 1 : Nat), .int .u64 (dgl (N) 2 : Nat), .int .u64 (dgl (N) 3 : Nat), .int .u64 (dgl (N) 4 : Nat), .int .u64 (dgl (N) 5 : Nat), .int .u64 (dgl (N) 6 : Nat), .int .u64 (dgl (N) 7 : Nat)])), (122, .big N 40), (123, .big PY 42), (17, .big PY 42)]
    (fun W => GsSt xh xl yh yl D N b p6 p7 w w1 W) mixedOk (by kernel_rfl) (by kernel_rfl) (h12.below (Below.refl _ _).drew) (fun W W' h hb => h.below hb) ?_ ?_
  · refine gSt (gStep_run rfl (gRun_move 10 116 (.inl rfl) rfl (by decide +kernel) (fun v w h => h))) ?_
    refine gSt (gStep_run rfl ?_) ?_
    · intro ρ W hC hc hf hL
      have e116 : ρ (.tmp 116) = .int .u64 (y : Nat) := hL 116 (by decide +kernel)
      have h6 := HY5.out
      simp [go_sem, hc, hf, e116, h6]
      exact ⟨Below.refl _ _, rfl⟩
    refine gSt (gStep_run rfl (gRun_move 10 118 (.inl rfl) rfl (by decide +kernel) (fun v w h => h))) ?_
    refine gSt (gStep_run rfl ?_) ?_
    · intro ρ W hC hc hf hL
      have e117 : ρ (.tmp 117) = .int .u64 (y5 : Nat) := hL 117 (by decide +kernel)
      have e118 : ρ (.tmp 118) = .int .u64 (y : Nat) := hL 118 (by decide +kernel)
      have h6 := HY6.out
      simp [go_sem, hc, hf, e117, e118, h6]
      exact ⟨Below.refl _ _, rfl⟩
    refine gSt (gStep_run rfl ?_) ?_
    · intro ρ W hC hc hf hL
      have e119 : ρ (.tmp 119) = .int .u64 (y6 : Nat) := hL 119 (by decide +kernel)
      simp [go_sem, hc, hf, e119]
      refine (HSN.out W).mono ?_
      rintro e w' ⟨v, rfl, hv, hb⟩
      exact ⟨_, rfl, hb, hv⟩
    refine gSt (gStep_run rfl ?_) ?_
    · intro ρ W hC hc hf hL
      have e7 : ρ (.tmp 7) = .pointer (some ⟨p7, 0, none⟩) := hL 7 (by decide +kernel)
      have hl := hC.l7.1
      simp [go_sem, hc, hf, e7, hl]
      exact ⟨Below.refl _ _, rfl⟩
    refine gSt (gStep_run rfl ?_) ?_
    · intro ρ W hC hc hf hL
      have e121 : ρ (.tmp 121) = .agg #[.int .u64 (dgl (N) 0 : Nat), .int .u64 (dgl (N) 1 : Nat), .int .u64 (dgl (N) 2 : Nat), .int .u64 (dgl (N) 3 : Nat), .int .u64 (dgl (N) 4 : Nat), .int .u64 (dgl (N) 5 : Nat), .int .u64 (dgl (N) 6 : Nat), .int .u64 (dgl (N) 7 : Nat)] := hL 121 (by decide +kernel)
      simp [go_sem, hc, hf, e121]
      refine (HBN.out W).mono ?_
      rintro e w' ⟨v, rfl, hv, hb⟩
      exact ⟨_, rfl, hb, hv⟩
    refine gSt (gStep_run rfl ?_) ?_
    · intro ρ W hC hc hf hL
      have b120 : BigV W (ρ (.tmp 120)) (y6) (2) := hL 120 (by decide +kernel)
      have b122 : BigV W (ρ (.tmp 122)) (N) (40) := hL 122 (by decide +kernel)
      simp [go_sem, hc, hf]
      refine (HMY.out _ _ W b120 b122).mono ?_
      rintro e w' ⟨v, rfl, hv, hb⟩
      exact ⟨_, rfl, hb, hv⟩
    refine gSt (gStep_run rfl (gRun_move 123 17 (.inr rfl) rfl (by decide +kernel) (fun v w h => h))) ?_
    exact gSt0
  · intro W hC
    refine gFi 116 rfl ?_
    rintro _ rfl
    refine gFi 117 rfl ?_
    rintro _ rfl
    refine gFi 118 rfl ?_
    rintro _ rfl
    refine gFi 119 rfl ?_
    rintro _ rfl
    refine gFi 120 rfl ?_
    rintro u120 b120
    refine gFi 121 rfl ?_
    rintro _ rfl
    refine gFi 122 rfl ?_
    rintro u122 b122
    refine gFi 123 rfl ?_
    rintro u123 b123
    refine gFi 17 rfl ?_
    rintro u17 b17
    refine gFi0 ?_
    simp only [List.drop_succ_cons, List.drop_zero, Act.put, List.setIfInBounds_toArray, List.set_cons_succ, List.set_cons_zero]
    have HSg := hide hC
    clear hC h12
    go_wp2_with fail
    refine (HSY0.out _).mono ?_
    rintro e' wa ⟨va, rfl, hva, hba⟩
    have bp0 := b17.below hba
    replace HSg := hide (HSg.out.below hba)
    clear hba HSY0
    go_wp2_with fail
    refine (HHY0.out _ _ hva).mono ?_
    rintro e' wb ⟨vb, rfl, hvb, hbb⟩
    have bq0 := bp0.below hbb
    replace HSg := hide (HSg.out.below hbb)
    clear hbb HHY0 hva bp0
    go_wp2_with fail
    refine (HCY0.out _ _ _ bq0 hvb).mono ?_
    rintro e' wc ⟨rfl, rfl⟩
    clear HCY0 hvb
    go_wp2_with fail
    refine (HSY1.out _).mono ?_
    rintro e' wa ⟨va, rfl, hva, hba⟩
    have bp1 := bq0.below hba
    replace HSg := hide (HSg.out.below hba)
    clear hba HSY1
    go_wp2_with fail
    refine (HHY1.out _ _ hva).mono ?_
    rintro e' wb ⟨vb, rfl, hvb, hbb⟩
    have bq1 := bp1.below hbb
    replace HSg := hide (HSg.out.below hbb)
    clear hbb HHY1 hva bp1
    go_wp2_with fail
    refine (HCY1.out _ _ _ bq1 hvb).mono ?_
    rintro e' wc ⟨rfl, rfl⟩
    clear HCY1 hvb
  
    have a0 := HSg.out.a0
    have a1 := HSg.out.a1
    have hsz := hide (show ∀ V : World, V.heap.size = V.heap.size from fun _ => rfl)
    go_upto_region 22 with fail
    refine wp_gen (fun W => GsSt xh xl yh yl D N b p6 p7 w w1 W ∧ LiesF W wc.heap.size (dgl T)) ?_ ?_
    · have hbw := below_allocs wc (.cells #[.int .u64 (dgl (T) 0 : Nat), .int .u64 (dgl (T) 1 : Nat), .int .u64 (dgl (T) 2 : Nat), .int .u64 (dgl (T) 3 : Nat), .int .u64 (dgl (T) 4 : Nat), .int .u64 (dgl (T) 5 : Nat), .int .u64 (dgl (T) 6 : Nat), .int .u64 (dgl (T) 7 : Nat)] 32)
      have hl := liesF_new wc (dgl T) 32
      rw [← H3.out] at hl hbw
      exact ⟨HSg.out.below hbw, hl⟩
    clear a0 a1 hsz H3
    generalize wc.heap.size = p18 at *
    rintro W22 h22
    have HS2 := hide h22.1
    have hl18 := h22.2.1
    obtain ⟨d0, w0, hrm⟩ := h22.1.rm
    have HL1 := hide (HGL.out b d0 W22 W22 (RomG.again hrm))
    clear h22 hrm HSg HGL
    go_wp2_with fail
    refine HL1.out.mono ?_
    rintro e w23 ⟨rfl, h23⟩
    have hst := h23
    replace HS2 := hide (HS2.out.next h23)
    have HL2 := hide (HKL.out b true w23 w23 (RomG.again h23))
    clear h23 hst HL1 hl18 HKL
    go_wp2_with fail
    refine HL2.out.mono ?_
    rintro e w24 ⟨rfl, h24⟩
    replace HS2 := hide (HS2.out.next h24)
    clear h24 HL2
    go_wp2_with fail
    refine (HAW.out _).mono ?_
    rintro e w25 ⟨rfl, hb25⟩
    have HB6 := hide (below_trans HS2.out.bel hb25)
    clear hb25 HAW
    go_wp2
    go_ret
    exact ⟨rfl, HB6.out⟩
set_option maxRecDepth 100000 in
set_option maxHeartbeats 8000000 in
theorem romGuesses_YY (xh xl yh yl D N x x6 q PX BX0 BX1 y y5 y6 r PY BY0 BY1 g1 g2 : Nat) (i cx0 cx1 : Int) (cy0 cy1 : Int) (w : World)
    (H2 : Hid ((#[.int .u64 (xl : Nat), .int .u64 (xh : Nat), .int .u64 0, .int .u64 0, .int .u64 0, .int .u64 0, .int .u64 0, .int .u64 0] : Array Value) = #[.int .u64 (dgl (D) 0 : Nat), .int .u64 (dgl (D) 1 : Nat), .int .u64 (dgl (D) 2 : Nat), .int .u64 (dgl (D) 3 : Nat), .int .u64 (dgl (D) 4 : Nat), .int .u64 (dgl (D) 5 : Nat), .int .u64 (dgl (D) 6 : Nat), .int .u64 (dgl (D) 7 : Nat)]))
    (H4 : Hid ((#[.int .u64 (xl : Nat), .int .u64 (xh : Nat), .int .u64 (yl : Nat), .int .u64 (yh : Nat), .int .u64 0, .int .u64 0, .int .u64 0, .int .u64 0] : Array Value) = #[.int .u64 (dgl (N) 0 : Nat), .int .u64 (dgl (N) 1 : Nat), .int .u64 (dgl (N) 2 : Nat), .int .u64 (dgl (N) 3 : Nat), .int .u64 (dgl (N) 4 : Nat), .int .u64 (dgl (N) 5 : Nat), .int .u64 (dgl (N) 6 : Nat), .int .u64 (dgl (N) 7 : Nat)]))
    (HN : Hid (∀ w, Calls Try.prog 9 #[] w fun e w' => ∃ b, e = .returned (.pointer (some ⟨b, 0, none⟩)) ∧ RomD b false w' w' ∧ Below w.heap.size w w' ∧ w.heap.size ≤ b))
    (HG : Hid (∀ b d w W, RomD b d w W → Calls Try.prog 15 #[.pointer (some ⟨b, 0, none⟩), .agg #[.int .u64 (dgl (D) 0 : Nat), .int .u64 (dgl (D) 1 : Nat), .int .u64 (dgl (D) 2 : Nat), .int .u64 (dgl (D) 3 : Nat), .int .u64 (dgl (D) 4 : Nat), .int .u64 (dgl (D) 5 : Nat), .int .u64 (dgl (D) 6 : Nat), .int .u64 (dgl (D) 7 : Nat)]] W fun e w' => e = .returned (.tuple #[.int .u64 (x : Nat), .bool true]) ∧ RomD b true w w'))
    (HK : Hid (∀ b d w W, RomD b d w W → Calls Try.prog 16 #[.pointer (some ⟨b, 0, none⟩), .agg #[.int .u64 (dgl (N) 0 : Nat), .int .u64 (dgl (N) 1 : Nat), .int .u64 (dgl (N) 2 : Nat), .int .u64 (dgl (N) 3 : Nat), .int .u64 (dgl (N) 4 : Nat), .int .u64 (dgl (N) 5 : Nat), .int .u64 (dgl (N) 6 : Nat), .int .u64 (dgl (N) 7 : Nat)]] W fun e w' => e = .returned (.tuple #[.int .u64 (y : Nat), .bool true]) ∧ RomD b true w w'))
    (HAW : Hid (∀ w, Calls Try.prog 14 #[] w fun e w' => e = .returned (.bool true) ∧ Below w.heap.size w w'))
    (hx : Hid (decide ((xh : Int) < 9223372036854775808) = false)) (HQ : Hid (Op.shift .shr .u64 ((xh : Nat) : Int) .u64 57 = pure (.int .u64 ((q : Nat) : Int)) ∧ IntKind.i64.wrap (q : Int) = (q : Int) ∧ IntKind.i64.wrap ((q : Int) - 64) = i)) (HX6 : Hid (IntKind.u64.wrap (64 * (x : Int)) = (x6 : Int))) (HCX : Hid (decide (cx0 < 0) = false ∧ decide (0 < cx1) = false))
    (HRX : Hid (∀ w, Calls Try.prog 12 #[.int .i64 i] w fun e w' => e = .returned (.tuple #[.int .u64 (x : Nat), .bool true]) ∧ w' = w))
    (HSM : Hid (∀ w, Calls Try.prog 18 #[.int .u64 (x6 : Nat)] w fun e w' => ∃ v, e = .returned v ∧ BigV w' v x6 2 ∧ Below w.heap.size w w'))
    (HBD : Hid (∀ w, Calls Try.prog 19 #[.agg #[.int .u64 (dgl (D) 0 : Nat), .int .u64 (dgl (D) 1 : Nat), .int .u64 (dgl (D) 2 : Nat), .int .u64 (dgl (D) 3 : Nat), .int .u64 (dgl (D) 4 : Nat), .int .u64 (dgl (D) 5 : Nat), .int .u64 (dgl (D) 6 : Nat), .int .u64 (dgl (D) 7 : Nat)]] w fun e w' => ∃ v, e = .returned v ∧ BigV w' v D 40 ∧ Below w.heap.size w w'))
    (HMX : Hid (∀ u v w, BigV w u x6 2 → BigV w v D 40 → Calls Try.prog 17 #[u, v] w fun e w' => ∃ v', e = .returned v' ∧ BigV w' v' PX 42 ∧ Below w.heap.size w w'))
    (HSX0 : Hid (∀ w, Calls Try.prog 18 #[.int .u64 63] w fun e w' => ∃ v, e = .returned v ∧ BigV w' v 63 2 ∧ Below w.heap.size w w'))
    (HSX1 : Hid (∀ w, Calls Try.prog 18 #[.int .u64 65] w fun e w' => ∃ v, e = .returned v ∧ BigV w' v 65 2 ∧ Below w.heap.size w w'))
    (HHX0 : Hid (∀ u w, BigV w u 63 2 → Calls Try.prog 21 #[u, .int .i64 137] w fun e w' => ∃ v, e = .returned v ∧ BigV w' v BX0 7 ∧ Below w.heap.size w w'))
    (HHX1 : Hid (∀ u w, BigV w u 65 2 → Calls Try.prog 21 #[u, .int .i64 137] w fun e w' => ∃ v, e = .returned v ∧ BigV w' v BX1 7 ∧ Below w.heap.size w w'))
    (HCX0 : Hid (∀ u v w, BigV w u PX 42 → BigV w v BX0 7 → Calls Try.prog 20 #[u, v] w fun e w' => e = .returned (.int .i64 cx0) ∧ w' = w))
    (HCX1 : Hid (∀ u v w, BigV w u PX 42 → BigV w v BX1 7 → Calls Try.prog 20 #[u, v] w fun e w' => e = .returned (.int .i64 cx1) ∧ w' = w))
    (hy : Hid (decide ((yh : Int) < 4611686018427387904) = false)) (HRR : Hid (Op.shift .shr .u64 ((yh : Nat) : Int) .u64 57 = pure (.int .u64 ((r : Nat) : Int)) ∧ IntKind.i64.wrap (r : Int) = (r : Int))) (HY5 : Hid (IntKind.u64.wrap (32 * (y : Int)) = (y5 : Int))) (HY6 : Hid (IntKind.u64.wrap ((y5 : Int) * (y : Int)) = (y6 : Int))) (HCY : Hid (decide (cy0 < 0) = false ∧ decide (0 < cy1) = false))
    (HRY : Hid (∀ w, Calls Try.prog 13 #[.int .i64 (r : Nat)] w fun e w' => e = .returned (.tuple #[.int .u64 (y : Nat), .bool true]) ∧ w' = w))
    (HSN : Hid (∀ w, Calls Try.prog 18 #[.int .u64 (y6 : Nat)] w fun e w' => ∃ v, e = .returned v ∧ BigV w' v y6 2 ∧ Below w.heap.size w w'))
    (HBN : Hid (∀ w, Calls Try.prog 19 #[.agg #[.int .u64 (dgl (N) 0 : Nat), .int .u64 (dgl (N) 1 : Nat), .int .u64 (dgl (N) 2 : Nat), .int .u64 (dgl (N) 3 : Nat), .int .u64 (dgl (N) 4 : Nat), .int .u64 (dgl (N) 5 : Nat), .int .u64 (dgl (N) 6 : Nat), .int .u64 (dgl (N) 7 : Nat)]] w fun e w' => ∃ v, e = .returned v ∧ BigV w' v N 40 ∧ Below w.heap.size w w'))
    (HMY : Hid (∀ u v w, BigV w u y6 2 → BigV w v N 40 → Calls Try.prog 17 #[u, v] w fun e w' => ∃ v', e = .returned v' ∧ BigV w' v' PY 42 ∧ Below w.heap.size w w'))
    (HSY0 : Hid (∀ w, Calls Try.prog 18 #[.int .u64 31] w fun e w' => ∃ v, e = .returned v ∧ BigV w' v 31 2 ∧ Below w.heap.size w w'))
    (HSY1 : Hid (∀ w, Calls Try.prog 18 #[.int .u64 33] w fun e w' => ∃ v, e = .returned v ∧ BigV w' v 33 2 ∧ Below w.heap.size w w'))
    (HHY0 : Hid (∀ u w, BigV w u 31 2 → Calls Try.prog 21 #[u, .int .i64 274] w fun e w' => ∃ v, e = .returned v ∧ BigV w' v BY0 11 ∧ Below w.heap.size w w'))
    (HHY1 : Hid (∀ u w, BigV w u 33 2 → Calls Try.prog 21 #[u, .int .i64 274] w fun e w' => ∃ v, e = .returned v ∧ BigV w' v BY1 11 ∧ Below w.heap.size w w'))
    (HCY0 : Hid (∀ u v w, BigV w u PY 42 → BigV w v BY0 11 → Calls Try.prog 20 #[u, v] w fun e w' => e = .returned (.int .i64 cy0) ∧ w' = w))
    (HCY1 : Hid (∀ u v w, BigV w u PY 42 → BigV w v BY1 11 → Calls Try.prog 20 #[u, v] w fun e w' => e = .returned (.int .i64 cy1) ∧ w' = w))
    (T : Nat) (H3 : Hid ((#[.int .u64 (xl : Nat), .int .u64 (xh : Nat), .int .u64 1, .int .u64 0, .int .u64 0, .int .u64 0, .int .u64 0, .int .u64 0] : Array Value) = #[.int .u64 (dgl (T) 0 : Nat), .int .u64 (dgl (T) 1 : Nat), .int .u64 (dgl (T) 2 : Nat), .int .u64 (dgl (T) 3 : Nat), .int .u64 (dgl (T) 4 : Nat), .int .u64 (dgl (T) 5 : Nat), .int .u64 (dgl (T) 6 : Nat), .int .u64 (dgl (T) 7 : Nat)]))
    (HGL : Hid (∀ b d w W, RomD b d w W → Calls Try.prog 15 #[.pointer (some ⟨b, 0, none⟩), .agg #[.int .u64 (dgl (T) 0 : Nat), .int .u64 (dgl (T) 1 : Nat), .int .u64 (dgl (T) 2 : Nat), .int .u64 (dgl (T) 3 : Nat), .int .u64 (dgl (T) 4 : Nat), .int .u64 (dgl (T) 5 : Nat), .int .u64 (dgl (T) 6 : Nat), .int .u64 (dgl (T) 7 : Nat)]] W fun e w' => e = .returned (.tuple #[.int .u64 (g1 : Nat), .bool false]) ∧ RomD b true w w'))
    (HKL : Hid (∀ b d w W, RomD b d w W → Calls Try.prog 16 #[.pointer (some ⟨b, 0, none⟩), .agg #[.int .u64 0, .int .u64 0, .int .u64 0, .int .u64 0, .int .u64 1, .int .u64 0, .int .u64 0, .int .u64 0]] W fun e w' => e = .returned (.tuple #[.int .u64 (g2 : Nat), .bool false]) ∧ RomD b true w w')) :
    Calls Try.prog 4 #[.agg #[.int .u64 (xh : Nat), .int .u64 (xl : Nat)], .agg #[.int .u64 (yh : Nat), .int .u64 (yl : Nat)]] w fun e w' => e = .returned (.bool true) ∧ Below w.heap.size w w' := by
  have HS0 := hide (gs_two xh xl yh yl w 30 30)
  go_enter Try.func4, Try.ntmps4
  go_wp2_with fail
  refine (HN.out _).mono ?_
  rintro e w1 ⟨b, rfl, hr1, hb1, hl1⟩
  have hs0 : w.heap.size + 1 < w1.heap.size := Nat.lt_of_lt_of_le HS0.out.2.2.2.2.1 hb1.size
  have hob : w.heap.size + 1 < b := Nat.lt_of_lt_of_le HS0.out.2.2.2.2.1 hl1
  have hsz := HS0.out.2.2.2.2.1
  have a0 : w1.cell? ⟨w.heap.size, 0, none⟩ = some (.int .u64 (xh : Nat)) := (hb1.cell (p := ⟨w.heap.size, 0, none⟩) (Nat.lt_of_succ_lt hsz)).trans HS0.out.1
  have a1 : w1.cell? ⟨w.heap.size, 1, none⟩ = some (.int .u64 (xl : Nat)) := (hb1.cell (p := ⟨w.heap.size, 1, none⟩) (Nat.lt_of_succ_lt hsz)).trans HS0.out.2.1
  have c0 : w1.cell? ⟨w.heap.size + 1, 0, none⟩ = some (.int .u64 (yh : Nat)) := (hb1.cell (p := ⟨w.heap.size + 1, 0, none⟩) hsz).trans HS0.out.2.2.1
  have c1 : w1.cell? ⟨w.heap.size + 1, 1, none⟩ = some (.int .u64 (yl : Nat)) := (hb1.cell (p := ⟨w.heap.size + 1, 1, none⟩) hsz).trans HS0.out.2.2.2.1
  have HB1 := hide (show Below w.heap.size w w1 from below_trans HS0.out.2.2.2.2.2 hb1)
  have HR1 := hide hr1
  have HO := hide (show w.heap.size + 1 < w1.heap.size ∧ w.heap.size + 1 < b ∧ b < w1.heap.size from ⟨hs0, hob, hr1.lt⟩)
  clear hs0 hob

  clear hb1 hr1 hl1 HN hsz HS0
  go_upto_region 5 with fail
  refine wp_gen (fun W => (W.cell? ⟨w.heap.size, 0, none⟩ = some (.int .u64 (xh : Nat)) ∧ W.cell? ⟨w.heap.size, 1, none⟩ = some (.int .u64 (xl : Nat)) ∧ W.cell? ⟨w.heap.size + 1, 0, none⟩ = some (.int .u64 (yh : Nat)) ∧ W.cell? ⟨w.heap.size + 1, 1, none⟩ = some (.int .u64 (yl : Nat))) ∧ LiesF W w1.heap.size (dgl D) ∧ Below w.heap.size w W ∧ RomD b false w1 W ∧ W.heap.size = w1.heap.size + 1) ?_ ?_
  · have hbw := below_allocs w1 (.cells #[.int .u64 (dgl (D) 0 : Nat), .int .u64 (dgl (D) 1 : Nat), .int .u64 (dgl (D) 2 : Nat), .int .u64 (dgl (D) 3 : Nat), .int .u64 (dgl (D) 4 : Nat), .int .u64 (dgl (D) 5 : Nat), .int .u64 (dgl (D) 6 : Nat), .int .u64 (dgl (D) 7 : Nat)] 32)
    have hl6 := liesF_new w1 (dgl D) 32
    rw [← H2.out] at hl6 hbw
    exact ⟨⟨(hbw.cell (p := ⟨w.heap.size, 0, none⟩) (Nat.lt_of_succ_lt HO.out.1)).trans a0, (hbw.cell (p := ⟨w.heap.size, 1, none⟩) (Nat.lt_of_succ_lt HO.out.1)).trans a1, (hbw.cell (p := ⟨w.heap.size + 1, 0, none⟩) HO.out.1).trans c0, (hbw.cell (p := ⟨w.heap.size + 1, 1, none⟩) HO.out.1).trans c1⟩,
      hl6, below_trans HB1.out hbw, HR1.out.below hbw, by simp⟩
  clear a0 a1 c0 c1
  rintro W5 h5
  have a0 := h5.1.1
  have a1 := h5.1.2.1
  have c0 := h5.1.2.2.1
  have c1 := h5.1.2.2.2
  have H5 := hide h5
  clear h5
  go_upto_region 6 with fail
  refine wp_gen (fun W => (GsSt xh xl yh yl D N b w1.heap.size W5.heap.size w w1 W) ∧ RomD b false w1 W) ?_ ?_
  · have hbw := below_allocs W5 (.cells #[.int .u64 (dgl (N) 0 : Nat), .int .u64 (dgl (N) 1 : Nat), .int .u64 (dgl (N) 2 : Nat), .int .u64 (dgl (N) 3 : Nat), .int .u64 (dgl (N) 4 : Nat), .int .u64 (dgl (N) 5 : Nat), .int .u64 (dgl (N) 6 : Nat), .int .u64 (dgl (N) 7 : Nat)] 32)
    have hl7 := liesF_new W5 (dgl N) 32
    have hl6 := H5.out.2.1.below hbw
    rw [← H4.out] at hl7 hbw hl6
    have ho := HO.out
    have hs5 := H5.out.2.2.2.2
    exact ⟨⟨(hbw.cell (p := ⟨w.heap.size, 0, none⟩) (show w.heap.size < W5.heap.size by omega)).trans a0, (hbw.cell (p := ⟨w.heap.size, 1, none⟩) (show w.heap.size < W5.heap.size by omega)).trans a1, (hbw.cell (p := ⟨w.heap.size + 1, 0, none⟩) (show w.heap.size + 1 < W5.heap.size by omega)).trans c0, (hbw.cell (p := ⟨w.heap.size + 1, 1, none⟩) (show w.heap.size + 1 < W5.heap.size by omega)).trans c1,
      hl6, hl7, below_trans H5.out.2.2.1 hbw, Nat.lt_of_lt_of_le (show w.heap.size + 1 < W5.heap.size by omega) hbw.size, ho.2.1, by omega, by omega, ⟨_, _, H5.out.2.2.2.1.below hbw⟩⟩, H5.out.2.2.2.1.below hbw⟩
  have HP := hide (show W5.heap.size = w1.heap.size + 1 from H5.out.2.2.2.2)
  clear a0 a1 c0 c1 HO HB1 HR1 H4 H5 H2
  generalize w1.heap.size = p6 at *
  generalize W5.heap.size = p7 at *
  rintro W2 ⟨h2, hr2⟩
  have HS := hide h2
  have HG1 := hide (HG.out b false W2 W2 (RomG.again hr2))
  have hl6 := h2.l6.1
  have a0 := h2.a0
  have a1 := h2.a1
  have c0 := h2.c0
  clear h2 hr2
  go_wp2_with fail
  refine HG1.out.mono ?_
  rintro e w3 ⟨rfl, h3⟩
  replace HS := hide (HS.out.next h3)
  have HK1 := hide (HK.out b true w3 w3 (RomG.again h3))
  clear h3 HG1 hl6 a0 a1 c0
  have hl7 := HS.out.l7.1
  have a0 := HS.out.a0
  have a1 := HS.out.a1
  have c0 := HS.out.c0
  go_wp2_with fail
  refine HK1.out.mono ?_
  rintro e w4 ⟨rfl, h4⟩
  replace HS := hide (HS.out.next h4)
  have HRM := hide h4
  clear HK1 hl7 a0 a1 c0 h4
  have a0 := HS.out.a0
  have c0 := HS.out.c0
  have hx1 := hx.out
  go_upto_region 11 with fail
  clear hx1
  obtain ⟨hq1, hq2, hq3⟩ := HQ.out
  go_wp2_with fail
  refine (HRX.out _).mono ?_
  rintro e w5 ⟨rfl, rfl⟩
  clear HRX a0 c0 hq1 hq2 hq3
  obtain ⟨hc1, hc2⟩ := HCX.out
  go_upto_region 12 with fail
  have h12 := HS.out
  clear HS
  refine wp_region_grow 7 [(69, .val (.int .u64 (x : Nat))), (70, .val (.int .u64 (x6 : Nat))), (71, .big x6 2), (72, .val (.agg #[.int .u64 (dgl (D) 0 : Nat), .int .u64 (dgl (D) 1 : Nat), .int .u64 (dgl (D) 2 : Nat), .int .u64 (dgl (D) 3 : Nat), .int .u64 (dgl (D) 4 : Nat), .int .u64 (dgl (D) 5 : Nat), .int .u64 (dgl (D) 6 : Nat), .int .u64 (dgl (D) 7 : Nat)])), (73, .big D 40), (74, .big PX 42), (14, .big PX 42)]
    (fun W => GsSt xh xl yh yl D N b p6 p7 w w1 W) mixedOk (by kernel_rfl) (by kernel_rfl) (h12.below (Below.refl _ _).drew) (fun W W' h hb => h.below hb) ?_ ?_
  · refine gSt (gStep_run rfl (gRun_move 8 69 (.inl rfl) rfl (by decide +kernel) (fun v w h => h))) ?_
    refine gSt (gStep_run rfl ?_) ?_
    · intro ρ W hC hc hf hL
      have e69 : ρ (.tmp 69) = .int .u64 (x : Nat) := hL 69 (by decide +kernel)
      have h6 := HX6.out
      simp [go_sem, hc, hf, e69, h6]
      exact ⟨Below.refl _ _, rfl⟩
    refine gSt (gStep_run rfl ?_) ?_
    · intro ρ W hC hc hf hL
      have e70 : ρ (.tmp 70) = .int .u64 (x6 : Nat) := hL 70 (by decide +kernel)
      simp [go_sem, hc, hf, e70]
      refine (HSM.out W).mono ?_
      rintro e w' ⟨v, rfl, hv, hb⟩
      exact ⟨_, rfl, hb, hv⟩
    refine gSt (gStep_run rfl ?_) ?_
    · intro ρ W hC hc hf hL
      have e6 : ρ (.tmp 6) = .pointer (some ⟨p6, 0, none⟩) := hL 6 (by decide +kernel)
      have hl := hC.l6.1
      simp [go_sem, hc, hf, e6, hl]
      exact ⟨Below.refl _ _, rfl⟩
    refine gSt (gStep_run rfl ?_) ?_
    · intro ρ W hC hc hf hL
      have e72 : ρ (.tmp 72) = .agg #[.int .u64 (dgl (D) 0 : Nat), .int .u64 (dgl (D) 1 : Nat), .int .u64 (dgl (D) 2 : Nat), .int .u64 (dgl (D) 3 : Nat), .int .u64 (dgl (D) 4 : Nat), .int .u64 (dgl (D) 5 : Nat), .int .u64 (dgl (D) 6 : Nat), .int .u64 (dgl (D) 7 : Nat)] := hL 72 (by decide +kernel)
      simp [go_sem, hc, hf, e72]
      refine (HBD.out W).mono ?_
      rintro e w' ⟨v, rfl, hv, hb⟩
      exact ⟨_, rfl, hb, hv⟩
    refine gSt (gStep_run rfl ?_) ?_
    · intro ρ W hC hc hf hL
      have b71 : BigV W (ρ (.tmp 71)) (x6) (2) := hL 71 (by decide +kernel)
      have b73 : BigV W (ρ (.tmp 73)) (D) (40) := hL 73 (by decide +kernel)
      simp [go_sem, hc, hf]
      refine (HMX.out _ _ W b71 b73).mono ?_
      rintro e w' ⟨v, rfl, hv, hb⟩
      exact ⟨_, rfl, hb, hv⟩
    refine gSt (gStep_run rfl (gRun_move 74 14 (.inr rfl) rfl (by decide +kernel) (fun v w h => h))) ?_
    exact gSt0
  · intro W hC
    refine gFi 69 rfl ?_
    rintro _ rfl
    refine gFi 70 rfl ?_
    rintro _ rfl
    refine gFi 71 rfl ?_
    rintro u71 b71
    refine gFi 72 rfl ?_
    rintro _ rfl
    refine gFi 73 rfl ?_
    rintro u73 b73
    refine gFi 74 rfl ?_
    rintro u74 b74
    refine gFi 14 rfl ?_
    rintro u14 b14
    refine gFi0 ?_
    simp only [List.drop_succ_cons, List.drop_zero, Act.put, List.setIfInBounds_toArray, List.set_cons_succ, List.set_cons_zero]
    have HSg := hide hC
    clear hC h12
    go_wp2_with fail
    refine (HSX0.out _).mono ?_
    rintro e' wa ⟨va, rfl, hva, hba⟩
    have bp0 := b14.below hba
    replace HSg := hide (HSg.out.below hba)
    clear hba HSX0
    go_wp2_with fail
    refine (HHX0.out _ _ hva).mono ?_
    rintro e' wb ⟨vb, rfl, hvb, hbb⟩
    have bq0 := bp0.below hbb
    replace HSg := hide (HSg.out.below hbb)
    clear hbb HHX0 hva bp0
    go_wp2_with fail
    refine (HCX0.out _ _ _ bq0 hvb).mono ?_
    rintro e' wc ⟨rfl, rfl⟩
    clear HCX0 hvb
    go_wp2_with fail
    refine (HSX1.out _).mono ?_
    rintro e' wa ⟨va, rfl, hva, hba⟩
    have bp1 := bq0.below hba
    replace HSg := hide (HSg.out.below hba)
    clear hba HSX1
    go_wp2_with fail
    refine (HHX1.out _ _ hva).mono ?_
    rintro e' wb ⟨vb, rfl, hvb, hbb⟩
    have bq1 := bp1.below hbb
    replace HSg := hide (HSg.out.below hbb)
    clear hbb HHX1 hva bp1
    go_wp2_with fail
    refine (HCX1.out _ _ _ bq1 hvb).mono ?_
    rintro e' wc ⟨rfl, rfl⟩
    clear HCX1 hvb
  
    have c0 := HSg.out.c0
    have hy1 := hy.out
    obtain ⟨hr1, hr2⟩ := HRR.out
    go_wp2_with fail
    refine (HRY.out _).mono ?_
    rintro e w6 ⟨rfl, rfl⟩
    clear HRY c0 hr1 hr2 hy1
    obtain ⟨hc3, hc4⟩ := HCY.out
    go_upto_region 18 with fail
    have h12 := HSg.out
    clear HSg
    refine wp_region_grow 9 [(116, .val (.int .u64 (y : Nat))), (117, .val (.int .u64 (y5 : Nat))), (118, .val (.int .u64 (y : Nat))), (119, .val (.int .u64 (y6 : Nat))), (120, .big y6 2), (121, .val (.agg #[.int .u64 (dgl (N) 0 : Nat), .int .u64 (dgl (N) 1 : Nat), .int .u64 (dgl (N) 2 : Nat), .int .u64 (dgl (N) 3 : Nat), .int .u64 (dgl (N) 4 : Nat), .int .u64 (dgl (N) 5 : Nat), .int .u64 (dgl (N) 6 : Nat), .int .u64 (dgl (N) 7 : Nat)])), (122, .big N 40), (123, .big PY 42), (17, .big PY 42)]
      (fun W => GsSt xh xl yh yl D N b p6 p7 w w1 W) mixedOk (by kernel_rfl) (by kernel_rfl) (h12.below (Below.refl _ _).drew) (fun W W' h hb => h.below hb) ?_ ?_
    · refine gSt (gStep_run rfl (gRun_move 10 116 (.inl rfl) rfl (by decide +kernel) (fun v w h => h))) ?_
      refine gSt (gStep_run rfl ?_) ?_
      · intro ρ W hC hc hf hL
        have e116 : ρ (.tmp 116) = .int .u64 (y : Nat) := hL 116 (by decide +kernel)
        have h6 := HY5.out
        simp [go_sem, hc, hf, e116, h6]
        exact ⟨Below.refl _ _, rfl⟩
      refine gSt (gStep_run rfl (gRun_move 10 118 (.inl rfl) rfl (by decide +kernel) (fun v w h => h))) ?_
      refine gSt (gStep_run rfl ?_) ?_
      · intro ρ W hC hc hf hL
        have e117 : ρ (.tmp 117) = .int .u64 (y5 : Nat) := hL 117 (by decide +kernel)
        have e118 : ρ (.tmp 118) = .int .u64 (y : Nat) := hL 118 (by decide +kernel)
        have h6 := HY6.out
        simp [go_sem, hc, hf, e117, e118, h6]
        exact ⟨Below.refl _ _, rfl⟩
      refine gSt (gStep_run rfl ?_) ?_
      · intro ρ W hC hc hf hL
        have e119 : ρ (.tmp 119) = .int .u64 (y6 : Nat) := hL 119 (by decide +kernel)
        simp [go_sem, hc, hf, e119]
        refine (HSN.out W).mono ?_
        rintro e w' ⟨v, rfl, hv, hb⟩
        exact ⟨_, rfl, hb, hv⟩
      refine gSt (gStep_run rfl ?_) ?_
      · intro ρ W hC hc hf hL
        have e7 : ρ (.tmp 7) = .pointer (some ⟨p7, 0, none⟩) := hL 7 (by decide +kernel)
        have hl := hC.l7.1
        simp [go_sem, hc, hf, e7, hl]
        exact ⟨Below.refl _ _, rfl⟩
      refine gSt (gStep_run rfl ?_) ?_
      · intro ρ W hC hc hf hL
        have e121 : ρ (.tmp 121) = .agg #[.int .u64 (dgl (N) 0 : Nat), .int .u64 (dgl (N) 1 : Nat), .int .u64 (dgl (N) 2 : Nat), .int .u64 (dgl (N) 3 : Nat), .int .u64 (dgl (N) 4 : Nat), .int .u64 (dgl (N) 5 : Nat), .int .u64 (dgl (N) 6 : Nat), .int .u64 (dgl (N) 7 : Nat)] := hL 121 (by decide +kernel)
        simp [go_sem, hc, hf, e121]
        refine (HBN.out W).mono ?_
        rintro e w' ⟨v, rfl, hv, hb⟩
        exact ⟨_, rfl, hb, hv⟩
      refine gSt (gStep_run rfl ?_) ?_
      · intro ρ W hC hc hf hL
        have b120 : BigV W (ρ (.tmp 120)) (y6) (2) := hL 120 (by decide +kernel)
        have b122 : BigV W (ρ (.tmp 122)) (N) (40) := hL 122 (by decide +kernel)
        simp [go_sem, hc, hf]
        refine (HMY.out _ _ W b120 b122).mono ?_
        rintro e w' ⟨v, rfl, hv, hb⟩
        exact ⟨_, rfl, hb, hv⟩
      refine gSt (gStep_run rfl (gRun_move 123 17 (.inr rfl) rfl (by decide +kernel) (fun v w h => h))) ?_
      exact gSt0
    · intro W hC
      refine gFi 116 rfl ?_
      rintro _ rfl
      refine gFi 117 rfl ?_
      rintro _ rfl
      refine gFi 118 rfl ?_
      rintro _ rfl
      refine gFi 119 rfl ?_
      rintro _ rfl
      refine gFi 120 rfl ?_
      rintro u120 b120
      refine gFi 121 rfl ?_
      rintro _ rfl
      refine gFi 122 rfl ?_
      rintro u122 b122
      refine gFi 123 rfl ?_
      rintro u123 b123
      refine gFi 17 rfl ?_
      rintro u17 b17
      refine gFi0 ?_
      simp only [List.drop_succ_cons, List.drop_zero, Act.put, List.setIfInBounds_toArray, List.set_cons_succ, List.set_cons_zero]
      have HSg := hide hC
      clear hC h12
      go_wp2_with fail
      refine (HSY0.out _).mono ?_
      rintro e' wa ⟨va, rfl, hva, hba⟩
      have bp0 := b17.below hba
      replace HSg := hide (HSg.out.below hba)
      clear hba HSY0
      go_wp2_with fail
      refine (HHY0.out _ _ hva).mono ?_
      rintro e' wb ⟨vb, rfl, hvb, hbb⟩
      have bq0 := bp0.below hbb
      replace HSg := hide (HSg.out.below hbb)
      clear hbb HHY0 hva bp0
      go_wp2_with fail
      refine (HCY0.out _ _ _ bq0 hvb).mono ?_
      rintro e' wc ⟨rfl, rfl⟩
      clear HCY0 hvb
      go_wp2_with fail
      refine (HSY1.out _).mono ?_
      rintro e' wa ⟨va, rfl, hva, hba⟩
      have bp1 := bq0.below hba
      replace HSg := hide (HSg.out.below hba)
      clear hba HSY1
      go_wp2_with fail
      refine (HHY1.out _ _ hva).mono ?_
      rintro e' wb ⟨vb, rfl, hvb, hbb⟩
      have bq1 := bp1.below hbb
      replace HSg := hide (HSg.out.below hbb)
      clear hbb HHY1 hva bp1
      go_wp2_with fail
      refine (HCY1.out _ _ _ bq1 hvb).mono ?_
      rintro e' wc ⟨rfl, rfl⟩
      clear HCY1 hvb
  
      have a0 := HSg.out.a0
      have a1 := HSg.out.a1
      have hsz := hide (show ∀ V : World, V.heap.size = V.heap.size from fun _ => rfl)
      go_upto_region 22 with fail
      refine wp_gen (fun W => GsSt xh xl yh yl D N b p6 p7 w w1 W ∧ LiesF W wc.heap.size (dgl T)) ?_ ?_
      · have hbw := below_allocs wc (.cells #[.int .u64 (dgl (T) 0 : Nat), .int .u64 (dgl (T) 1 : Nat), .int .u64 (dgl (T) 2 : Nat), .int .u64 (dgl (T) 3 : Nat), .int .u64 (dgl (T) 4 : Nat), .int .u64 (dgl (T) 5 : Nat), .int .u64 (dgl (T) 6 : Nat), .int .u64 (dgl (T) 7 : Nat)] 32)
        have hl := liesF_new wc (dgl T) 32
        rw [← H3.out] at hl hbw
        exact ⟨HSg.out.below hbw, hl⟩
      clear a0 a1 hsz H3
      generalize wc.heap.size = p18 at *
      rintro W22 h22
      have HS2 := hide h22.1
      have hl18 := h22.2.1
      obtain ⟨d0, w0, hrm⟩ := h22.1.rm
      have HL1 := hide (HGL.out b d0 W22 W22 (RomG.again hrm))
      clear h22 hrm HSg HGL
      go_wp2_with fail
      refine HL1.out.mono ?_
      rintro e w23 ⟨rfl, h23⟩
      have hst := h23
      replace HS2 := hide (HS2.out.next h23)
      have HL2 := hide (HKL.out b true w23 w23 (RomG.again h23))
      clear h23 hst HL1 hl18 HKL
      go_wp2_with fail
      refine HL2.out.mono ?_
      rintro e w24 ⟨rfl, h24⟩
      replace HS2 := hide (HS2.out.next h24)
      clear h24 HL2
      go_wp2_with fail
      refine (HAW.out _).mono ?_
      rintro e w25 ⟨rfl, hb25⟩
      have HB6 := hide (below_trans HS2.out.bel hb25)
      clear hb25 HAW
      go_wp2
      go_ret
      exact ⟨rfl, HB6.out⟩
end Go.Proofs.Yteocibahclpegaa

