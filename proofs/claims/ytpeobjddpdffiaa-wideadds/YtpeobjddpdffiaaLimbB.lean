/- Contracts of limb: at, list. -/
import Derived.Test.YtpeobjddpdffiaaLimbA
import Derived.Shelf.Abstract
set_option linter.unusedVariables false
namespace Go.Proofs.Ytpeobjddpdffiaa
open Go.RowKit Plain

theorem info64 : (Try.prog.info? 22).map (fun i => (i.zero, i.size, i.bytes)) = some (some (.int .u64 0), 1, 8) := by kernel_rfl

set_option maxHeartbeats 400000 in
theorem at_any (l : List Nat) (v : Value) (w : World) (hr : Rd mk64 w v l) (i : Int) :
    Calls Try.prog 67 #[v, .int .i64 i] w fun e w' => e = .returned (.int .u64 (if i < 0 then 0 else (dg l i.toNat : Nat))) ∧ w' = w := by
  obtain ⟨ao, cap, rfl, hc, hm, hr⟩ := hr
  unfold maxLen at hm
  by_cases h0 : i < 0
  · rw [if_pos h0]
    clear hr
    go_enter Try.func67, Try.ntmps67
    go_wp2
    go_ret
    exact ⟨rfl, rfl⟩
  · rw [if_neg h0]
    obtain ⟨k, rfl⟩ := Int.eq_ofNat_of_zero_le (Int.not_lt.1 h0)
    rw [Int.toNat_natCast]
    by_cases h1 : k < l.length
    · rcases hr with hr | ⟨b, off, rfl, hlt, hcell⟩
      · omega
      · have hck := hcell k h1
        unfold mk64 at hck
        clear hcell hc
        go_enter Try.func67, Try.ntmps67
        go_wp2
        go_ret
        exact ⟨rfl, rfl⟩
    · have HO : Hid (dg l k = 0) := getD_past l k (by omega)
      clear hr
      go_enter Try.func67, Try.ntmps67
      go_wp2
      go_ret
      exact ⟨ret_int (by rw [HO.out]; rfl), rfl⟩

set_option maxHeartbeats 1000000 in
theorem list_any (n : Int) (nn : Nat) (hn : max n 0 = (nn : Int)) (hnn : nn ≤ 1000000) (fid : Nat) (caps : Array Value) (f : Nat → Nat) (I : Nat → World → Prop) (row : Option Nat) (w : World)
    (hent : ∀ args w, (callFunc fid args).run Try.prog w = .ok (.enter fid args) w) (hrow : ∀ c, row = some c → c < w.heap.size)
    (hcall : ∀ i wr, i < nn → I i wr → w.heap.size ≤ wr.heap.size → Calls Try.prog fid (#[.int .i64 i] ++ caps) wr fun e w' => e = .returned (.int .u64 (f i : Nat)) ∧ I (i + 1) w' ∧ wr.grownBy w' row)
    (hst : ∀ i wr wr', I i wr → Below w.heap.size wr wr' → I i wr') (h0 : I 0 w) :
    Calls Try.prog 65 #[.int .i64 n, .func (.func fid) #[] caps] w fun e w' => ∃ v k, e = .returned v ∧ k ≤ nn ∧ Rd mk64 w' v (((List.range nn).map f).take k) ∧
      (∀ j, k ≤ j → j < nn → f j = 0) ∧ (k = 0 ∨ f (k - 1) ≠ 0) ∧ w.grownBy w' row := by
  have HC := hide hcall
  have HS := hide hst
  have H0 := hide h0
  have HR := hide hrow
  clear hcall hst h0 hrow
  obtain ⟨i0, hi, hz0, hz1, hz2⟩ := info_parts info64
  have hcase : (n < 0 ∧ nn = 0) ∨ (0 ≤ n ∧ n = (nn : Int)) := by omega
  clear hn
  rcases hcase with ⟨hneg, hz⟩ | ⟨hpos, hz⟩
  · subst hz
    go_enter Try.func65, Try.ntmps65
    go_wp2_with (at_make; refine wpList_mk0 w rfl (.tmp 9) (.tmp 9) 33 rfl 22 i0 (.int .u64 0) 8 Try.underlying33 hi hz0 hz1 hz2 mk64 rfl rfl .i64 .i64 _ _ 0 (by rfl) (by rfl) (by omega) (by omega) (by omega) (by omega) ?_; intro w0 hown0 hbel0)
    refine wp_loop_rounds 1 ?_
    rw [rounds_succ]
    go_wp2
    go_ret
    exact ⟨_, 0, rfl, Nat.le_refl _, ⟨_, 0, rfl, Nat.le_refl _, by simp [maxLen], .inl (by simp)⟩, fun j _ hj => by omega, .inl rfl, grownBy_of_below hbel0 row⟩
  · subst hz
    go_enter Try.func65, Try.ntmps65
    go_wp2_with (at_make; refine wpList_mk0 w rfl (.tmp 9) (.tmp 9) 33 rfl 22 i0 (.int .u64 0) 8 Try.underlying33 hi hz0 hz1 hz2 mk64 rfl rfl .i64 .i64 _ _ nn (by rfl) (by rfl) (by omega) (by omega) (by omega) (by omega) ?_; intro w0 hown0 hbel0)
    have HI0 := hide (unhide HS _ _ _ (unhide H0) hbel0)
    clear hi hz0 hz1 hz2
    go_loopw [6, 13] (fun u i wr => ∃ (k uu : Nat) (o : List Nat), k ≤ nn ∧ i = .int .i64 k ∧ u = .int .i64 uu ∧ uu ≤ k ∧ Hid (o.length = nn ∧ (∀ j, j < k → dg o j = f j) ∧ (∀ j, uu ≤ j → j < k → f j = 0) ∧ (uu = 0 ∨ f (uu - 1) ≠ 0)) ∧
        wr.ownsRow w.heap.size 22 1 (.slice (some ⟨w.heap.size, 0, none⟩) nn nn) nn (o.map mk64) ∧ I k wr ∧ w.grownBy wr row)
      (fun _ i _ => nn - (intOf i).toNat)
    case atStart => exact ⟨0, 0, _, by omega, rfl, rfl, by omega, ⟨by simp, fun j hj => by omega, fun j _ hj => by omega, .inl rfl⟩, hown0, unhide HI0, grownBy_of_below hbel0 row⟩
    case round =>
      clear hown0 hbel0 HI0 H0
      obtain ⟨k, uu, o, hk, rfl, rfl, huu, ho, hown, hI, hgr⟩ := hrel
      by_cases hlt : k < nn
      · have hsz := hgr.size
        obtain ⟨ho1, ho2, ho3, ho4⟩ := ho.out
        have HO1 := hide ho1
        have HO2 := hide ho2
        have HO3 := hide ho3
        have HO4 := hide ho4
        clear ho ho1 ho2 ho3 ho4
        by_cases hfk : f k = 0
        all_goals
          go_wp2_with fail
          refine (unhide HC k wr hlt hI hsz).mono ?_
          rintro e w1 ⟨rfl, hI1, hg1⟩
          have hown1 := hown.kept hg1 (.inr (by
            intro he
            have := unhide HR _ he.symm
            simp at this))
          have hgr1 := grownBy_trans hgr hg1
          have hsz1 := hgr1.size
          clear hown hI hgr hg1
          have hco : w1.cell? ⟨w.heap.size, k, none⟩ = some (.int .u64 (dg o k : Nat)) := owns_cell hown1 HO1.out k hlt
          have hfo : w1.frozen? ⟨w.heap.size, k, none⟩ = false := hown1.frozenAt _
          obtain ⟨hown2, hb2⟩ := owns_store (mk := mk64) hown1 k (f k) (Below.refl w.heap.size w1) (Nat.le_refl _)
          have HI2 := hide (unhide HS _ _ _ hI1 hb2)
          have HG2 := hide (grownBy_then hgr1 (Nat.le_refl _) hb2)
          have HW2 := hide hown2
          have HL2 := hide (show (o.set k (f k)).length = nn from by rw [List.length_set]; exact HO1.out)
          have HD2 := hide (show ∀ j, j < k + 1 → dg (o.set k (f k)) j = f j from by
            intro j hj
            rw [dg_set _ _ _ _ (by rw [HO1.out]; exact hlt)]
            split
            · rename_i h; rw [h]
            · exact HO2.out j (by omega))
          clear hown1 hgr1 hown2 hb2 hI1
          have hj1 : (k : Int) < (nn : Int) := by omega
        · have hne : ((f k : Int) != 0) = false := by simp [hfk]
          have HFK := hide hfk
          clear hfk
          go_wp2
          go_roundw
          case rel => exact ⟨k + 1, uu, _, by omega, by go_num, rfl, by omega, ⟨HL2.out, HD2.out, fun j h1 h2 => by
            by_cases h : j = k
            · rw [h]; exact HFK.out
            · exact HO3.out j h1 (by omega), HO4.out⟩, HW2.out, HI2.out, HG2.out⟩
          case measure => simp [intOf]; omega
        · have hne : ((f k : Int) != 0) = true := by simp; omega
          have HFK := hide hfk
          clear hfk
          go_wp2
          go_roundw
          case rel => exact ⟨k + 1, k + 1, _, by omega, by go_num, by go_num, by omega, ⟨HL2.out, HD2.out, fun j h1 h2 => by omega, .inr HFK.out⟩, HW2.out, HI2.out, HG2.out⟩
          case measure => simp [intOf]; omega
      · have hk2 : k = nn := by omega
        subst hk2
        obtain ⟨ho1, ho2, ho3, ho4⟩ := ho.out
        have hr := Rd.of_owns (l := o) (mk := mk64) (by rw [ho1]; exact hown)
        have eo : o = (List.range k).map f := by
          apply List.ext_getElem (by simp [ho1])
          intro j h1 h2
          have := ho2 j (by omega)
          simp only [dg, List.getD_eq_getElem?_getD, List.getElem?_eq_getElem h1, Option.getD_some] at this
          simp [this]
        rw [ho1.symm] at hr
        have HT := hide (hr.take uu (by omega))
        rw [eo] at HT
        simp only [List.length_map, List.length_range] at HT
        have HO3 := hide ho3
        have HO4 := hide ho4
        clear hr ho ho1 ho2 ho3 ho4 eo hown hI
        go_wp2
        go_ret
        exact ⟨_, uu, rfl, huu, HT.out, HO3.out, HO4.out, hgr⟩

end Go.Proofs.Ytpeobjddpdffiaa
