/- Contracts and laws: DigP, DigQ. -/
import Derived.Test.YtjklehlkgccmnaaBaseV
/- Contracts: radicandref04.Hex. -/
set_option linter.unusedVariables false
set_option linter.unusedSimpArgs false
set_option maxRecDepth 8000
namespace Go.Proofs.Ytjklehlkgccmnaa
open Go.RowKit Plain

theorem txt_cons (f g : Nat → Nat) (n : Nat) (h : ∀ k, k < n → f (k + 1) = g k) : txt f (n + 1) = UInt8.ofNat (symN (f 0)) :: txt g n := by
  unfold txt
  rw [List.range_succ_eq_map, List.map_cons, List.map_map]
  congr 1
  refine List.map_congr_left fun k hk => ?_
  show UInt8.ofNat (symN (f (k + 1))) = _
  rw [h k (by simpa using hk)]
theorem textN_cons (base a n : Nat) : textN base a (n + 1) = ⟨#[UInt8.ofNat (symN (a / base ^ n % base))]⟩ ++ textN base a n := by
  unfold textN
  rw [txt_cons (digN base a (n + 1)) (digN base a n) n (fun k hk => by unfold digN; rw [show n + 1 - 1 - (k + 1) = n - 1 - k by omega])]
  have h0 : digN base a (n + 1) 0 = a / base ^ n % base := by unfold digN; rw [show n + 1 - 1 - 0 = n by omega]
  rw [h0]
  apply ByteArray.ext
  simp
theorem textN_zero (base a : Nat) : textN base a 0 = ⟨#[]⟩ := rfl
theorem symbols_cut (d : Nat) (h : d < 16) : (ByteArray.mk #[48, 49, 50, 51, 52, 53, 54, 55, 56, 57, 97, 98, 99, 100, 101, 102]).extract d (d + 1) = ⟨#[UInt8.ofNat (symN d)]⟩ := by
  match d, h with
  | 0, _ | 1, _ | 2, _ | 3, _ | 4, _ | 5, _ | 6, _ | 7, _ | 8, _ | 9, _ | 10, _ | 11, _ | 12, _ | 13, _ | 14, _ | 15, _ => rfl
  | n + 16, h => omega
theorem hexN_go {a j : Nat} (h : j < hexN a) : j = 0 ∨ 0 < a / 16 ^ j := by
  rcases hexN_ge a with h1 | h1
  · left; omega
  · right
    refine Nat.div_pos (Nat.le_trans (Nat.pow_le_pow_right (by decide) (by omega)) h1) (Nat.pow_pos (by decide))
theorem hexN_stop {a j : Nat} (h : j = hexN a) : a / 16 ^ j = 0 := by
  rw [h]
  exact Nat.div_eq_of_lt (hexN_lt a)
def lenS : Value → Nat
  | .string s => s.size
  | _ => 0
theorem div16 (a j : Nat) : a / 16 ^ j / 2 ^ 4 = a / 16 ^ (j + 1) := by
  show a / 16 ^ j / 16 = _
  rw [Nat.div_div_eq_div_mul, ← Nat.pow_succ]

set_option maxHeartbeats 400000 in
theorem ref4Hex_any (a : Nat) (ha : a < QQ) (v : Value) (w : World) (hv : BigV w v a 40) :
    Calls Try.prog 10 #[v] w fun e w' => e = .returned (.string (textN 16 a (hexN a))) ∧ Below w.heap.size w w' := by
  have HLE := hide (fun n va w (h : BigV w va n 40) => refLen_any n 40 va w h (by decide))
  have HSH := hide (fun n va w (h : BigV w va n 40) => refShr_any n 40 4 va w h (by decide) (by decide))
  have hnb := hexN_le ha
  have hn0 := hexN_pos a
  obtain ⟨n, hn⟩ : ∃ n, hexN a = n := ⟨_, rfl⟩
  have HGO : Hid (∀ j, j < n → j = 0 ∨ 0 < a / 16 ^ j) := fun j hj => hexN_go (by omega)
  have HST : Hid (∀ j, j = n → a / 16 ^ j = 0) := fun j hj => hexN_stop (by omega)
  rw [hn] at hnb hn0 ⊢
  clear hn
  have HV := hide hv
  clear hv
  go_enter Try.func10, Try.ntmps10
  go_wp2_with fail
  refine (HLE.out a _ _ HV.out).mono ?_
  rintro e w1 ⟨rfl, hw⟩
  subst w1
  go_wp2
  go_loopw [0, 4, 5] (fun b s m wr => ∃ (j : Nat) (u : Value), j ≤ n ∧ u = b ∧ s = .string (textN 16 a j) ∧ m = .int .i64 (Go.bitLen (a / 16 ^ j) : Nat) ∧ Hid (BigV wr u (a / 16 ^ j) 40) ∧ Hid (Below w.heap.size w wr)) (fun b s m _ => n - lenS s)
  case atStart => exact ⟨0, v, by omega, rfl, rfl, by rw [Nat.pow_zero, Nat.div_one], by rw [Nat.pow_zero, Nat.div_one]; exact HV, Below.refl _ _⟩
  case round =>
    obtain ⟨j, u, hj, rfl, rfl, rfl, hbv, hbl⟩ := hrel
    clear HV
    by_cases hlt : j < n
    · obtain ⟨l, hrd, hdg, hnm, hll⟩ := hbv.out
      have HSR := hide (fun w h => HSH.out (a / 16 ^ j) u w h)
      rw [div16] at HSR
      have HTC := hide (textN_cons 16 a j)
      have HLL := hide (fun va w h => HLE.out (a / 16 ^ (j + 1)) va w h)
      have hts : (textN 16 a j).size ≤ 128 := by rw [textN_size]; omega
      have HTZ := hide (textN_size 16 a j)
      have HTY := hide (textN_size 16 a (j + 1))
      by_cases hx : a / 16 ^ j = 0
      · have hj0 : j = 0 := by rcases HGO.out j hlt with h | h <;> omega
        have hl0 : l.length = 0 := by
          rcases hnm with h | h
          · exact h
          · rw [hx] at h
            have : 0 < BB ^ (l.length - 1) := Nat.pow_pos (by decide)
            omega
        have HD : Hid (a / 16 ^ j % 16 = 0) := by unfold Hid; rw [hx]
        have hbl0 : Go.bitLen (a / 16 ^ j) = 0 := by rw [hx]; rfl
        have hte : textN 16 a j = ⟨#[]⟩ := by rw [hj0]; rfl
        obtain ⟨ao, ca, rfl, hca, hma, -⟩ := hrd
        rw [hte] at HTC
        rw [HD.out] at HTC
        have hcut := symbols_cut 0 (by decide)
        rw [hl0] at hbv HSR
        have HBV := hide hbv.out
        rw [hbl0, hl0, hte]
        have HMS : Hid (lenS (.string ((ByteArray.mk #[UInt8.ofNat (symN 0)]) ++ ⟨#[]⟩)) = j + 1) := by unfold Hid; rw [← HTC.out]; exact HTY.out
        have HJ0 := hide hj0
        clear hte hbl0 hl0 hj0 hx hnm hdg hbv hca hma
        go_wp2_with fail
        refine (HSR.out _ HBV.out).mono ?_
        rintro e w1 ⟨v1, rfl, hv1, hb1⟩
        have HB1 := hide (below_trans hbl.out hb1)
        have HV1 := hide hv1
        clear hb1 hv1 HBV
        go_wp2_with fail
        refine (HLL.out _ _ HV1.out).mono ?_
        rintro e w2 ⟨rfl, hw⟩
        subst w2
        go_wp2
        go_roundw
        case rel => exact ⟨j + 1, v1, by omega, rfl, congrArg Value.string HTC.out.symm, rfl, HV1, HB1⟩
        case measure =>
          rw [HMS.out, HJ0.out]
          show n - 1 < n - 0
          omega
      · have hl1 : 0 < l.length := by
          rcases Nat.eq_zero_or_pos l.length with h | h
          · have h2 := hdg.1
            rw [h, Nat.pow_zero] at h2
            exact absurd h2 (Nat.not_lt_of_le (Nat.pos_of_ne_zero hx))
          · exact h
        have hbp : 0 < Go.bitLen (a / 16 ^ j) := by
          rcases Nat.eq_zero_or_pos (Go.bitLen (a / 16 ^ j)) with h | h
          · have h2 := (bitLen_spec (a / 16 ^ j)).1
            rw [h, Nat.pow_zero] at h2
            exact absurd h2 (Nat.not_lt_of_le (Nat.pos_of_ne_zero hx))
          · exact h
        have hbp' : (0 : Int) < (Go.bitLen (a / 16 ^ j) : Nat) := by omega
        have hdd : dg l 0 % 16 = a / 16 ^ j % 16 := by
          rw [hdg.2 0, Nat.pow_zero, Nat.div_one]
          exact Nat.mod_mod_of_dvd _ (by decide)
        have hd16 : a / 16 ^ j % 16 < 16 := Nat.mod_lt _ (by decide)
        have hcut := symbols_cut _ hd16
        have HBV := hide hbv.out
        obtain ⟨ao, ca, rfl, hca, hma, hcl⟩ := hrd
        unfold maxLen at hma
        rcases hcl with h | ⟨b, off, rfl, hb, hcell⟩
        · omega
        have hc0 : wr.cell? ⟨b, off, none⟩ = some (.int .u32 (dg l 0 : Nat)) := hcell 0 hl1
        have hl1' : (0 : Int) < (l.length : Int) := by omega
        have hmod : ((dg l 0 : Nat) : Int) % 16 = ((a / 16 ^ j % 16 : Nat) : Int) := by omega
        generalize hdx : a / 16 ^ j % 16 = d at *
        generalize Go.bitLen (a / 16 ^ j) = bl at *
        have hd' : (d : Int) < 16 := by omega
        clear hcell hx hnm hdg hbv hdd hdx hbp
        generalize dg l 0 = l0 at *
        generalize hT : textN 16 a j = T at *
        have HMS : Hid (lenS (.string ((ByteArray.mk #[UInt8.ofNat (symN d)]) ++ T)) = j + 1) := by unfold Hid; rw [← HTC.out]; exact HTY.out
        clear hT
        go_wp2_with fail
        refine (HSR.out _ HBV.out).mono ?_
        rintro e w1 ⟨v1, rfl, hv1, hb1⟩
        have HB1 := hide (below_trans hbl.out hb1)
        have HV1 := hide hv1
        clear hb1 hv1 HBV
        go_wp2_with fail
        refine (HLL.out _ _ HV1.out).mono ?_
        rintro e w2 ⟨rfl, hw⟩
        subst w2
        go_wp2
        go_roundw
        case rel => exact ⟨j + 1, v1, by omega, rfl, congrArg Value.string HTC.out.symm, rfl, HV1, HB1⟩
        case measure =>
          rw [HMS.out]
          show n - (j + 1) < n - T.size
          rw [HTZ.out]
          omega
    · have hjn : j = n := by omega
      have hx := HST.out j hjn
      have hts : (textN 16 a j).size ≠ 0 := by rw [textN_size]; omega
      have hbl0 : Go.bitLen (a / 16 ^ j) = 0 := by rw [hx]; rfl
      have hE := empty_iff (textN 16 a j)
      rw [decide_eq_false hts] at hE
      subst hjn
      rw [hbl0]
      clear hx hbl0 hlt hbv HSH HLE
      go_wp2
      go_ret
      exact ⟨rfl, hbl.out⟩

end Go.Proofs.Ytjklehlkgccmnaa

/- Texts of a number's lowest digits, and texts without noughts at the front. -/
set_option linter.unusedVariables false
set_option linter.unusedSimpArgs false
set_option maxRecDepth 8000
namespace Go.Proofs.Ytjklehlkgccmnaa
open Go.RowKit Plain

/-- A word lies at p. -/
structure Wd2 (W : World) (p x y : Nat) : Prop where
  c0 : W.cell? ⟨p, 0, none⟩ = some (.int .u64 (x : Nat))
  c1 : W.cell? ⟨p, 1, none⟩ = some (.int .u64 (y : Nat))
  lt : p < W.heap.size
theorem Wd2.below {W W' : World} {p x y : Nat} (h : Wd2 W p x y) (hb : Below W.heap.size W W') : Wd2 W' p x y :=
  ⟨(hb.cell (p := ⟨p, 0, none⟩) h.lt).trans h.c0, (hb.cell (p := ⟨p, 1, none⟩) h.lt).trans h.c1, Nat.lt_of_lt_of_le h.lt hb.size⟩
theorem wd2_new (w : World) (x y : Nat) (e : TypeId) : Wd2 (w.alloc (.cells #[.int .u64 (x : Nat), .int .u64 (y : Nat)] e)) w.heap.size x y :=
  ⟨by simp [go_sem], by simp [go_sem], by simp⟩

theorem cut_mod (a n : Nat) : a - a / 2 ^ (4 * n) * 2 ^ (4 * n) = a % 16 ^ n := by
  rw [pow4, Nat.mod_def, Nat.mul_comm]
theorem mod_dig (a n p : Nat) (h : p < n) : a % 16 ^ n / 16 ^ p % 16 = a / 16 ^ p % 16 := by
  have h1 : n = p + (n - p) := by omega
  rw [h1, Nat.pow_add, Nat.mod_mul_right_div_self]
  exact Nat.mod_mod_of_dvd _ (by
    have : n - p = (n - p - 1) + 1 := by omega
    rw [this, Nat.pow_succ]
    exact Nat.dvd_mul_left _ _)
theorem textN_mod (a n : Nat) : textN 16 (a % 16 ^ n) n = textN 16 a n := by
  unfold textN
  congr 2
  unfold txt
  refine List.map_congr_left fun k hk => ?_
  have hk' : k < n := by simpa using hk
  unfold digN
  rw [mod_dig a n _ (by omega)]
theorem lt_word (n : Nat) (hn : n ≤ 32) : 16 ^ n ≤ 16 ^ 32 := Nat.pow_le_pow_right (by decide) hn
theorem told_text (a n : Nat) (hn : n ≤ 32) : Told (goodN 16 (textN 16 a n) (textN 16 a n).size) 16 (textN 16 a n) (a % 16 ^ n) 0 := by
  have hq : (16 : Nat) ^ 32 < QQ := by decide +kernel
  have h1 := lt_word n hn
  have h2 : a % 16 ^ n < 16 ^ n := Nat.mod_lt _ (Nat.pow_pos (by decide))
  have h3 : numN 16 (textN 16 a n) (textN 16 a n).size = a % 16 ^ n := by
    rw [textN_size, textN_num (by decide) (by decide) a n n (Nat.le_refl _), Nat.sub_self, Nat.pow_zero, Nat.div_one]
  refine .inl ⟨by rw [textN_size]; exact textN_good (by decide) (by decide) a n, ?_, h3.symm, rfl⟩
  rw [h3]; omega
theorem hexN_small {c n : Nat} (h : c < 16 ^ n) (hn : 1 ≤ n) : hexN c ≤ n := by
  rcases hexN_ge c with h1 | h1
  · omega
  · rcases Nat.lt_or_ge n (hexN c) with h2 | h2
    · have := Nat.pow_le_pow_right (show 0 < 16 by decide) (show n ≤ hexN c - 1 by omega)
      omega
    · exact h2
theorem textN_pad {c j : Nat} (h : c < 16 ^ j) : textN 16 c (j + 1) = ⟨#[48]⟩ ++ textN 16 c j := by
  rw [textN_cons, Nat.div_eq_of_lt h]
  rfl

theorem good_lt (s : ByteArray) : ∀ k, goodN 16 s k → numN 16 s k < 16 ^ k
  | 0, _ => Nat.zero_lt_one
  | k + 1, h => by
    have h1 := good_lt s k (fun i hi => h i (by omega))
    have h2 := h k (by omega)
    show 16 * numN 16 s k + worthN (byteN s k) < _
    rw [Nat.pow_succ]
    omega
/-- u is s without its first k bytes, which are noughts. -/
structure Strip (s : ByteArray) (k : Nat) (u : ByteArray) : Prop where
  sz : u.size + k = s.size
  by' : ∀ i, i < u.size → byteN u i = byteN s (k + i)
  z : ∀ i, i < k → byteN s i = 48
theorem strip_start (s : ByteArray) : Strip s 0 s := ⟨rfl, fun i hi => by rw [Nat.zero_add], fun i hi => absurd hi (Nat.not_lt_zero _)⟩
theorem byte_ext (u : ByteArray) (i : Nat) (h : i + 1 < u.size) : byteN (u.extract 1 u.size) i = byteN u (i + 1) := by
  have hs : (u.extract 1 u.size).size = u.size - 1 := by simp
  have hi : i < (u.extract 1 u.size).size := by omega
  rw [← byte_at _ i hi, ← byte_at u (i + 1) h]
  congr 1
  rw [ByteArray.getElem_extract]
  congr 1
  omega
theorem Strip.step {s u : ByteArray} {k : Nat} (h : Strip s k u) (h1 : 1 < u.size) (h0 : byteN u 0 = 48) : Strip s (k + 1) (u.extract 1 u.size) := by
  have hs : (u.extract 1 u.size).size = u.size - 1 := by simp
  refine ⟨by have := h.sz; omega, fun i hi => ?_, fun i hi => ?_⟩
  · rw [byte_ext u i (by omega), h.by' (i + 1) (by omega)]
    congr 1
    omega
  · rcases Nat.lt_or_ge i k with h2 | h2
    · exact h.z i h2
    · have : i = k := by omega
      subst this
      rw [← h0, h.by' 0 (by omega), Nat.add_zero]
theorem worth48 : worthN (48 : Nat) = 0 := rfl
theorem Strip.zero {s u : ByteArray} {k : Nat} (h : Strip s k u) : ∀ j, j ≤ k → numN 16 s j = 0
  | 0, _ => rfl
  | j + 1, hj => by
    show 16 * numN 16 s j + worthN (byteN s j) = 0
    rw [h.zero j (by omega), h.z j (by omega), worth48]
theorem Strip.num {s u : ByteArray} {k : Nat} (h : Strip s k u) : ∀ m, m ≤ u.size → numN 16 u m = numN 16 s (k + m)
  | 0, _ => by rw [Nat.add_zero, h.zero k (Nat.le_refl _)]; rfl
  | m + 1, hm => by
    show 16 * numN 16 u m + worthN (byteN u m) = 16 * numN 16 s (k + m) + worthN (byteN s (k + m))
    rw [h.num m (by omega), h.by' m (by omega)]
theorem Strip.good {s u : ByteArray} {k : Nat} (h : Strip s k u) : goodN 16 u u.size ↔ goodN 16 s s.size := by
  constructor
  · intro hg i hi
    rcases Nat.lt_or_ge i k with h2 | h2
    · rw [h.z i h2, worth48]; decide
    · have := hg (i - k) (by have := h.sz; omega)
      rw [h.by' (i - k) (by have := h.sz; omega), show k + (i - k) = i by omega] at this
      exact this
  · intro hg i hi
    rw [h.by' i hi]
    exact hg (k + i) (by have := h.sz; omega)
theorem Strip.told {s u : ByteArray} {k x : Nat} {c : Int} (h : Strip s k u) (h1 : 0 < u.size) (h2 : u.size = 1 ∨ byteN u 0 ≠ 48) (hT : Told (goodN 16 s s.size) 16 s x c) : Told (plainN 16 u) 16 u x c := by
  have hp : plainN 16 u ↔ goodN 16 s s.size := by
    rw [← h.good]
    constructor
    · exact fun hq => hq.2.1
    · exact fun hq => ⟨h1, hq, h2.symm⟩
  have hn : numN 16 u u.size = numN 16 s s.size := by
    rw [h.num u.size (Nat.le_refl _)]
    congr 1
    have := h.sz
    omega
  unfold Told at hT ⊢
  rw [hp, hn]
  exact hT
theorem told_code {s : ByteArray} {x : Nat} {c : Int} (hs : s.size ≤ 32) (hT : Told (goodN 16 s s.size) 16 s x c) : (c = 0) ∨ (x = 0 ∧ c = 2) := by
  rcases hT with ⟨_, _, _, h⟩ | ⟨h1, h2, _, _⟩ | ⟨_, h3, h4⟩
  · exact .inl h
  · have hq : (16 : Nat) ^ 32 < QQ := by decide +kernel
    have := good_lt s s.size h1
    have := lt_word s.size hs
    omega
  · exact .inr ⟨h3, h4⟩

end Go.Proofs.Ytjklehlkgccmnaa

