/- Contracts of radicandref01: Mul. -/
import Derived.Test.YtenbomfoihajhaaRefB
set_option linter.unusedVariables false
set_option linter.unusedSimpArgs false
set_option maxRecDepth 8000
namespace Go.Proofs.Ytenbomfoihajhaa
open Go.RowKit Plain

def MulInv (n m na nb i k c : Nat) (o : List Nat) : Prop :=
  o.length = na + nb ∧ (∀ j, dg o j < BB) ∧ c < BB ∧ val BB o + c * BB ^ (i + k) = n % BB ^ i * m + BB ^ i * (n / BB ^ i % BB) * (m % BB ^ k) ∧ ∀ j, i + nb ≤ j → dg o j = 0
def MulOut (n m na nb i : Nat) (o : List Nat) : Prop :=
  o.length = na + nb ∧ (∀ j, dg o j < BB) ∧ val BB o = n % BB ^ i * m ∧ ∀ j, i + nb ≤ j → dg o j = 0

theorem mulOut_zero (n m na nb : Nat) : MulOut n m na nb 0 (List.replicate (na + nb) 0) :=
  ⟨by simp, fun j => by rw [dg_zeros]; decide, by rw [val_zeros]; simp [Nat.mod_one], fun j _ => dg_zeros _ j⟩
theorem mulInv_zero {n m na nb i : Nat} {o : List Nat} (h : MulOut n m na nb i o) : MulInv n m na nb i 0 0 o :=
  ⟨h.1, h.2.1, by decide, by rw [h.2.2.1]; simp [Nat.mod_one], h.2.2.2⟩
theorem mulInv_step {n m na nb i k c : Nat} {o : List Nat} (h : MulInv n m na nb i k c o) (hi : i < na) (hk : k < nb) :
    c + dg o (i + k) + dgt n i * dgt m k < 18446744073709551616 ∧
    MulInv n m na nb i (k + 1) ((c + dg o (i + k) + dgt n i * dgt m k) / 4294967296) (o.set (i + k) ((c + dg o (i + k) + dgt n i * dgt m k) % 4294967296)) := by
  obtain ⟨h1, h2, h3, h4, h5⟩ := h
  have hb := mul_bound h3 (h2 (i + k)) (dgt_lt n i) (dgt_lt m k)
  have hb' : c + dg o (i + k) + dgt n i * dgt m k < 18446744073709551616 := hb
  refine ⟨hb', by simp [h1], fun j => ?_, ?_, ?_, fun j hj => ?_⟩
  · rw [dg_set _ _ _ _ (by omega)]; split
    · exact Nat.mod_lt _ (by decide)
    · exact h2 j
  · show _ < 4294967296
    omega
  · have hs := val_set BB o (i + k) ((c + dg o (i + k) + dgt n i * dgt m k) % 4294967296) (by omega)
    have e := mul_step (β := BB) (d := dgt n i) (m := m) (k := k) (by decide) rfl hs h4
    rw [part_step, ← Nat.add_assoc i k 1, Nat.pow_succ]
    exact e
  · rw [dg_set _ _ _ _ (by omega), if_neg (by omega)]
    exact h5 j hj
theorem mulInv_end {n m na nb i c : Nat} {o : List Nat} (h : MulInv n m na nb i nb c o) (hi : i < na) (hm : m < BB ^ nb) : MulOut n m na nb (i + 1) (o.set (i + nb) c) := by
  obtain ⟨h1, h2, h3, h4, h5⟩ := h
  have hs := val_set BB o (i + nb) c (by omega)
  rw [h5 (i + nb) (Nat.le_refl _), Nat.zero_mul, Nat.add_zero, h4, Nat.mod_eq_of_lt hm, part_end] at hs
  refine ⟨by simp [h1], fun j => ?_, hs, fun j hj => ?_⟩
  · rw [dg_set _ _ _ _ (by omega)]; split
    · exact h3
    · exact h2 j
  · rw [dg_set _ _ _ _ (by omega), if_neg (by omega)]
    exact h5 j (by omega)
theorem mulOut_end {n m na nb : Nat} {o : List Nat} (h : MulOut n m na nb na o) (hn : n < BB ^ na) : Dig BB o (n * m) := by
  have := val_dig (β := BB) (by decide) o h.2.1
  rw [h.2.2.1, Nat.mod_eq_of_lt hn] at this
  exact this

theorem wrap_mul_add (c x d y : Nat) (h : c + x + d * y < 18446744073709551616) : IntKind.u64.wrap ((c : Int) + (x : Int) + IntKind.u64.wrap ((d : Int) * (y : Int))) = ((c + x + d * y : Nat) : Int) := by
  rw [← Int.natCast_mul, IntKind.wrap_u64, IntKind.wrap_u64]; omega

set_option maxHeartbeats 2000000 in
theorem refMul_any (n m K L : Nat) (va vb : Value) (w : World) (ha : BigV w va n K) (hb : BigV w vb m L) (hK : K ≤ 1000000) (hL : L ≤ 1000000) :
    Calls Try.prog 47 #[va, vb] w fun e w' => ∃ v, e = .returned v ∧ BigV w' v (n * m) (K + L) ∧ Below w.heap.size w w' := by
  obtain ⟨la, ⟨ao, ca, rfl, hca, hma, hra⟩, hda, -, hka⟩ := ha
  obtain ⟨lb, ⟨bo, cb, rfl, hcb, hmb, hrb⟩, hdb, -, hkb⟩ := hb
  unfold maxLen at hma hmb
  obtain ⟨na, hna⟩ : ∃ na, na = la.length := ⟨_, rfl⟩
  obtain ⟨nb, hnb⟩ : ∃ nb, nb = lb.length := ⟨_, rfl⟩
  have HA : Hid (n < BB ^ na) := by rw [hna]; exact hda.1
  have HB : Hid (m < BB ^ nb) := by rw [hnb]; exact hdb.1
  have HRA : Hid (na = 0 ∨ ∃ b off, ao = some ⟨b, off, none⟩ ∧ b < w.heap.size ∧ ∀ i, i < na → w.cell? ⟨b, off + i, none⟩ = some (.int .u32 (dgt n i : Nat))) := by
    rw [hna]
    rcases hra with h | ⟨b, off, h1, h2, h3⟩
    · exact .inl h
    · exact .inr ⟨b, off, h1, h2, fun i hi => by rw [h3 i hi, hda.2 i]; rfl⟩
  have HRB : Hid (nb = 0 ∨ ∃ b off, bo = some ⟨b, off, none⟩ ∧ b < w.heap.size ∧ ∀ i, i < nb → w.cell? ⟨b, off + i, none⟩ = some (.int .u32 (dgt m i : Nat))) := by
    rw [hnb]
    rcases hrb with h | ⟨b, off, h1, h2, h3⟩
    · exact .inl h
    · exact .inr ⟨b, off, h1, h2, fun i hi => by rw [h3 i hi, hdb.2 i]; rfl⟩
  clear hra hrb hda hdb
  rw [← hna] at hca hka
  rw [← hnb] at hcb hkb
  rw [← hna, ← hnb]
  clear hna hnb
  obtain ⟨i0, hi, hz0, hz1, hz2⟩ := info_parts info32
  go_enter Try.func47, Try.ntmps47
  go_wp2_with (at_make; refine wpList_mk0 w rfl (.tmp 13) (.tmp 13) 28 rfl 84 i0 (.int .u32 0) 4 Try.underlying28 hi hz0 hz1 hz2 mk32 rfl rfl .i64 .i64 _ _ (na + nb) (by rfl) (by rfl) (by omega) (by omega) (by omega) (by omega) ?_; intro w0 hown0 hbel0)
  clear hi hz0 hz1 hz2
  go_loopw [6] (fun i wr => ∃ (k : Nat) (o : List Nat), k ≤ na ∧ i = .int .i64 k ∧ Hid (MulOut n m na nb k o) ∧
        wr.ownsRow w.heap.size 84 1 (.slice (some ⟨w.heap.size, 0, none⟩) (na + nb) (na + nb)) (na + nb) (o.map mk32) ∧ Below w.heap.size w wr)
      (fun i _ => na - (intOf i).toNat)
  case atStart => exact ⟨0, _, by omega, rfl, mulOut_zero n m na nb, hown0, hbel0⟩
  case round =>
    clear hown0 hbel0
    obtain ⟨i, o, hi, rfl, hout, hown, hbel⟩ := hrel
    by_cases hlt : i < na
    · rcases unhide HRA with hc | ⟨b, off, rfl, hbl, hcell⟩
      · omega
      · have HCA := hide (hcell i hlt)
        clear hcell
        go_wp2
        go_loopw [7, 8] (fun c k wr => ∃ (kk c' : Nat) (o : List Nat), kk ≤ nb ∧ k = .int .i64 kk ∧ c = .int .u64 c' ∧ Hid (MulInv n m na nb i kk c' o) ∧
            wr.ownsRow w.heap.size 84 1 (.slice (some ⟨w.heap.size, 0, none⟩) (na + nb) (na + nb)) (na + nb) (o.map mk32) ∧ Below w.heap.size w wr)
          (fun _ k _ => nb - (intOf k).toNat)
        case atStart => exact ⟨0, 0, o, by omega, rfl, rfl, mulInv_zero hout.out, hown, hbel⟩
        case round =>
          clear hown hbel hout
          obtain ⟨k, c, o, hk, rfl, rfl, hinv, hown, hbel⟩ := hrel
          by_cases hlt2 : k < nb
          · rcases unhide HRB with hc | ⟨bb, boff, rfl, hbl2, hcell⟩
            · omega
            · have hca1 : wr.cell? ⟨b, off + i, none⟩ = some (.int .u32 (dgt n i : Nat)) := (hbel.cell (p := ⟨b, off + i, none⟩) hbl).trans HCA.out
              have hcb1 : wr.cell? ⟨bb, boff + k, none⟩ = some (.int .u32 (dgt m k : Nat)) := (hbel.cell (p := ⟨bb, boff + k, none⟩) hbl2).trans (hcell k hlt2)
              clear hcell
              have hco : wr.cell? ⟨w.heap.size, i + k, none⟩ = some (.int .u32 (dg o (i + k) : Nat)) := owns_cell hown hinv.out.1 (i + k) (by omega)
              have hfo : wr.frozen? ⟨w.heap.size, i + k, none⟩ = false := hown.frozenAt _
              obtain ⟨hb, hst⟩ := mulInv_step hinv.out hlt hlt2
              have HB1 := hide hb
              have HST := hide hst
              clear hb hst
              have x1 := dgt_lt n i
              have x2 := dgt_lt m k
              have x3 : dg o (i + k) < 4294967296 := hinv.out.2.1 _
              have x4 : c < 4294967296 := hinv.out.2.2.1
              have j1 : (i : Int) < (na : Int) := by omega
              have j2 : (k : Int) < (nb : Int) := by omega
              have j3 : (i : Int) + (k : Int) < (na : Int) + (nb : Int) := by omega
              go_wp2
              go_quiet (fail)
              go_wp2
              go_roundw
              case rel =>
                rw [wrap_mul_add _ _ _ _ HB1.out]
                generalize c + dg o (i + k) + dgt n i * dgt m k = t at *
                have e1 : (t : Int) % 4294967296 = ((t % 4294967296 : Nat) : Int) := by omega
                have e2 : (t : Int) / 4294967296 = ((t / 4294967296 : Nat) : Int) := by omega
                rw [e1, e2]
                have hs := owns_store (mk := mk32) (ownsRow_drewN hown nq) (i + k) (t % 4294967296) (below_drewN' hbel nq) (Nat.le_refl _)
                exact ⟨k + 1, _, _, by omega, by go_num, rfl, HST, hs.1, hs.2⟩
              case measure => simp [intOf]; omega
          · have hk2 : k = nb := by omega
            subst hk2
            have hco : wr.cell? ⟨w.heap.size, i + k, none⟩ = some (.int .u32 (dg o (i + k) : Nat)) := owns_cell hown hinv.out.1 (i + k) (by omega)
            have hfo : wr.frozen? ⟨w.heap.size, i + k, none⟩ = false := hown.frozenAt _
            have j3 : (i : Int) + (k : Int) < (na : Int) + (k : Int) := by omega
            have x4 : c < 4294967296 := hinv.out.2.2.1
            have HE := hide (mulInv_end hinv.out hlt HB.out)
            go_wp2
            go_roundw
            case rel =>
              have hs := owns_store (mk := mk32) hown (i + k) c hbel (Nat.le_refl _)
              exact ⟨i + 1, _, by omega, by go_num, HE, hs.1, hs.2⟩
            case measure => simp [intOf]; omega
    · have hk : i = na := by omega
      subst hk
      have hl := hout.out.1
      have hr := Rd.of_owns (l := o) (mk := mk32) (by rw [hl]; exact hown)
      have hd := mulOut_end hout.out HA.out
      clear hown
      have HD := hide hd
      have HL := hide hl
      clear hd hl
      go_wp2_with (go_at_call 68; refine (trim_any _ _ (K + L) _ _ hr HD.out (by rw [HL.out]; omega)).mono ?_; rintro e w' ⟨v', rfl, hbig, hw⟩; subst w')
      go_ret
      exact ⟨_, rfl, hbig, hbel⟩

end Go.Proofs.Ytenbomfoihajhaa
