/- Contracts and laws: FmtH. -/
import Derived.Test.YtidfegilddlglaaDoorXFmtF
/- Contracts: radicandref05.times, Sign, Word. -/
set_option linter.unusedVariables false
set_option linter.unusedSimpArgs false
set_option maxRecDepth 8000
namespace Go.Proofs.YtidfegilddlglaaDoor
open Go.RowKit Plain

/-- A text of signs 0 and 1. -/
def bt (l : List Bool) : ByteArray := ⟨(l.map fun b => bif b then (49 : UInt8) else 48).toArray⟩
/-- The number that it is, base 2. -/
def valN (l : List Bool) : Nat := l.foldl (fun n b => 2 * n + b.toNat) 0
theorem bt_size (l : List Bool) : (bt l).size = l.length := by
  show ((l.map _).toArray).size = _
  simp
theorem bt_app (l m : List Bool) : bt l ++ bt m = bt (l ++ m) := by
  apply ByteArray.ext
  show (bt l ++ bt m).data = _
  simp [bt]
theorem bt_get (l : List Bool) (k : Nat) (h : k < (bt l).size) (h2 : k < l.length) : (bt l)[k]'h = bif l[k] then (49 : UInt8) else 48 := by
  have : (bt l)[k]'h = ((l.map fun b => bif b then (49 : UInt8) else 48).toArray)[k]'(by simpa using h2) := rfl
  rw [this]
  simp
theorem valN_snoc (l : List Bool) (b : Bool) : valN (l ++ [b]) = 2 * valN l + b.toNat := by simp [valN]
theorem valN_take (l : List Bool) (k : Nat) (h : k < l.length) : valN (l.take (k + 1)) = 2 * valN (l.take k) + l[k].toNat := by
  rw [List.take_succ_eq_append_getElem h, valN_snoc]
theorem sign5_any (b : Bool) (w : World) : Calls Tryd.prog 64 #[.bool b] w fun e w' => e = .returned (.string (bt [b])) ∧ w' = w := by
  cases b
  · go_enter Tryd.func64, Tryd.ntmps64
    go_wp2
    go_ret
    exact ⟨rfl, rfl⟩
  · go_enter Tryd.func64, Tryd.ntmps64
    go_wp2
    go_ret
    exact ⟨rfl, rfl⟩
theorem ret_str {s t : ByteArray} (h : s = t) : Ending.returned (.string s) = Ending.returned (.string t) := by rw [h]

theorem dgl0 (n : Nat) : dgl n 0 = n % 18446744073709551616 := by unfold dgl; rw [Nat.pow_zero, Nat.div_one]
theorem dgl1 (n : Nat) : dgl n 1 = n / 18446744073709551616 % 18446744073709551616 := by unfold dgl; rw [Nat.pow_one]
theorem word_hi (N : Nat) (b : Bool) : bits .or .u64 (IntKind.u64.wrap ((dgl N 1 : Int) * 2)) ((dgl N 0 : Int) / 9223372036854775808) = ((dgl (2 * N + b.toNat) 1 : Nat) : Int) := by
  have h := or_add 1 (dgl N 1) (dgl N 0) (by decide) (dgl_lt _ _) (dgl_lt _ _)
  rw [show min (IntKind.u64.wrap (64 - ((1 : Nat) : Int))).toNat 64 = 63 by decide +kernel, show (2 : Int) ^ 1 = 2 from rfl, show (2 : Int) ^ 63 = 9223372036854775808 by decide +kernel] at h
  rw [h, dgl1, dgl0, dgl1]
  have hb := Bool.toNat_le b
  omega
theorem word_lo (N : Nat) : IntKind.u64.wrap ((dgl N 0 : Int) * 2) = ((dgl (2 * N) 0 : Nat) : Int) := by
  rw [IntKind.wrap_u64, dgl0, dgl0]
  omega
theorem word_lo1 (N : Nat) : IntKind.u64.wrap (((dgl (2 * N) 0 : Nat) : Int) + 1) = ((dgl (2 * N + 1) 0 : Nat) : Int) := by
  rw [IntKind.wrap_u64, dgl0, dgl0]
  omega

structure WordSt (w : World) (hi lo : Nat) (W : World) : Prop where
  r0 : W.cell? ⟨w.heap.size, 0, none⟩ = some (.int .u64 0)
  r1 : W.cell? ⟨w.heap.size, 1, none⟩ = some (.int .u64 0)
  fr : ∀ i, W.frozen? ⟨w.heap.size, i, none⟩ = false
  h : W.cell? ⟨w.heap.size + 1, 0, none⟩ = some (.int .u64 (hi : Nat))
  l : W.cell? ⟨w.heap.size + 1, 1, none⟩ = some (.int .u64 (lo : Nat))
  fh : ∀ i, W.frozen? ⟨w.heap.size + 1, i, none⟩ = false
  lt : w.heap.size + 1 < W.heap.size
  bel : Below w.heap.size w W
theorem wordSt_start (w : World) : WordSt w 0 0 ((w.alloc (.cells #[.int .u64 0, .int .u64 0] 24)).alloc (.cells #[.int .u64 0, .int .u64 0] 24)) :=
  ⟨by simp [go_sem], by simp [go_sem], fun i => by simp [go_sem], by simp [go_sem], by simp [go_sem], fun i => by simp [go_sem], by simp, below_trans (below_allocs _ _) (below_allocs _ _)⟩
theorem WordSt.set {w W : World} {hi lo : Nat} (h : WordSt w hi lo W) (a b : Nat) : WordSt w a b ((W.setCell ⟨w.heap.size + 1, 0, none⟩ (.int .u64 (a : Nat))).setCell ⟨w.heap.size + 1, 1, none⟩ (.int .u64 (b : Nat))) := by
  have h1 := h.h
  have h2 := h.l
  have h3 := h.r0
  have h4 := h.r1
  have h5 := h.fr
  have h6 := h.fh
  have h7 := h.lt
  exact ⟨by simpa [go_sem] using h3, by simpa [go_sem] using h4, fun i => by simpa [go_sem] using h5 i, by simp [go_sem, h1, h2], by simp [go_sem, h1, h2], fun i => by simpa [go_sem] using h6 i, by simpa [go_sem] using h7,
    (h.bel.setCell (p := ⟨w.heap.size + 1, 0, none⟩) (Nat.le_succ _) _).setCell (p := ⟨w.heap.size + 1, 1, none⟩) (Nat.le_succ _) _⟩

theorem WordSt.set1 {w W : World} {hi lo : Nat} (h : WordSt w hi lo W) (b : Nat) : WordSt w hi b (W.setCell ⟨w.heap.size + 1, 1, none⟩ (.int .u64 (b : Nat))) := by
  have h1 := h.h
  have h2 := h.l
  have h3 := h.r0
  have h4 := h.r1
  have h5 := h.fr
  have h6 := h.fh
  have h7 := h.lt
  exact ⟨by simpa [go_sem] using h3, by simpa [go_sem] using h4, fun i => by simpa [go_sem] using h5 i, by simp [go_sem, h1], by simp [go_sem, h2], fun i => by simpa [go_sem] using h6 i, by simpa [go_sem] using h7,
    h.bel.setCell (p := ⟨w.heap.size + 1, 1, none⟩) (Nat.le_succ _) _⟩

set_option maxHeartbeats 1000000 in
theorem refWord_any (l : List Bool) (hl : l.length ≤ 1000) (w : World) : Calls Tryd.prog 65 #[.string (bt l)] w fun e w' => e = .returned (.agg #[.int .u64 (dgl (valN l) 1 : Nat), .int .u64 (dgl (valN l) 0 : Nat)]) ∧ Below w.heap.size w w' := by
  have HS0 := hide (wordSt_start w)
  have hs := bt_size l
  go_enter Tryd.func65, Tryd.ntmps65
  go_wp2
  go_loopw [4] (fun i wr => ∃ k : Nat, k ≤ l.length ∧ i = .int .i64 k ∧ Hid (WordSt w (dgl (valN (l.take k)) 1) (dgl (valN (l.take k)) 0) wr)) (fun i _ => l.length - (intOf i).toNat)
  case atStart => exact ⟨0, by omega, rfl, by rw [List.take_zero, show valN [] = 0 from rfl, dgl_zero, dgl_zero]; exact HS0⟩
  case round =>
    clear HS0
    obtain ⟨k, hk, rfl, hst⟩ := hrel
    by_cases hlt : k < l.length
    · have hj : (k : Int) < ((bt l).size : Int) := by rw [hs]; omega
      have hV := valN_take l k hlt
      have hG := bt_get l k (by rw [hs]; exact hlt) hlt
      have h1 := hst.out.h
      have h2 := hst.out.l
      have h3 := hst.out.fh
      have h4 := hst.out.lt
      generalize valN (l.take k) = N at *
      generalize l[k] = b at *
      have w1 := word_hi N b
      have w2 := word_lo N
      have w3 := word_lo1 N
      cases b
      · have HV := hide hV
        clear hV
        go_wp2
        go_roundw
        case rel => exact ⟨k + 1, by omega, rfl, by rw [HV.out]; exact hst.out.set _ _⟩
        case measure =>
          show l.length - ((k : Int) + 1).toNat < l.length - ((k : Int)).toNat
          omega
      · have HV := hide hV
        clear hV
        go_wp2
        go_roundw
        case rel => exact ⟨k + 1, by omega, rfl, by rw [HV.out]; exact (hst.out.set _ _).set1 _⟩
        case measure =>
          show l.length - ((k : Int) + 1).toNat < l.length - ((k : Int)).toNat
          omega
    · have hj : ¬ (k : Int) < ((bt l).size : Int) := by rw [hs]; omega
      have hkl : k = l.length := by omega
      rw [hkl, List.take_length] at hst
      have h1 := hst.out.h
      have h2 := hst.out.l
      have h3 := hst.out.r0
      have h4 := hst.out.r1
      have h5 := hst.out.fr
      have h6 := hst.out.lt
      have h7 : w.heap.size < wr.heap.size := by omega
      have HB := hide hst.out.bel
      clear hst hkl hs
      go_wp2
      exact bodyPost_ret (v := .agg #[.int .u64 (dgl (valN l) 1 : Nat), .int .u64 (dgl (valN l) 0 : Nat)]) (by simp [results, Tryd.results65, go_sem, h3, h4, h7]) rfl ⟨rfl, (HB.out.setCell (p := ⟨w.heap.size, 0, none⟩) (Nat.le_refl _) _).setCell (p := ⟨w.heap.size, 1, none⟩) (Nat.le_refl _) _⟩

end Go.Proofs.YtidfegilddlglaaDoor

