/- Contracts and laws: DigF, DigG, DigH. -/
import Derived.Test.YtjklehlkgccmnaaBaseR
import Derived.Shelf.Strings.BuilderK
/- Contracts: strings.Builder's copyCheck and WriteByte, of a builder that the call made itself. -/
set_option linter.unusedVariables false
set_option linter.unusedSimpArgs false
set_option maxRecDepth 8000
namespace Go.Proofs.Ytjklehlkgccmnaa
open Go.RowKit Plain

theorem builder_info : (Try.prog.info? 90).map (·.size) = some 2 := by kernel_rfl
theorem builder_lies : liesAt Try.prog Try.prog.depth 90 (2 / Try.prog.cellsOf 90) 0 90 1 = true := by kernel_rfl
theorem byte_info : (Try.prog.info? 5).map (fun i => (i.zero, i.size, i.bytes)) = some (some (.int .u8 0), 1, 1) := by kernel_rfl
theorem builder_ptr : Try.prog.underlying 87 = some (TypeDesc.pointer 90) := by kernel_rfl
theorem builder_unsafe : Try.prog.underlying 113 = some TypeDesc.unsafePointer := by kernel_rfl
theorem bytes_under : Try.prog.underlying 88 = some (TypeDesc.slice 5) := by kernel_rfl

set_option maxHeartbeats 1000000 in
set_option maxRecDepth 100000 in
theorem checked_used (b : Nat) (w : World) (h0 : w.cell? ⟨b, 0, none⟩ = some (.pointer (some ⟨b, 0, none⟩))) :
    Calls Try.prog 69 #[.pointer (some ⟨b, 0, none⟩)] w fun e w' => e = .returned (.tuple #[]) ∧ w' = w := by
  obtain ⟨j, hj, _⟩ := Option.map_eq_some_iff.1 builder_info
  go_enter Try.func69, Try.ntmps69
  go_wp2
  rw [Lib.run_neq_ptr_same w _ builder_ptr hj]
  go_wp2
  go_end0
  exact ⟨rfl, rfl⟩

set_option maxHeartbeats 1000000 in
set_option maxRecDepth 100000 in
theorem checked_fresh (b : Nat) (w : World) (h0 : w.cell? ⟨b, 0, none⟩ = some (.pointer none)) (hsh : w.shape? b = some (90, 2)) (hfz : w.frozen? ⟨b, 0, none⟩ = false) :
    Calls Try.prog 69 #[.pointer (some ⟨b, 0, none⟩)] w fun e w' => e = .returned (.tuple #[]) ∧ w' = w.setCell ⟨b, 0, none⟩ (.pointer (some ⟨b, 0, none⟩)) := by
  obtain ⟨j, hj, hjs⟩ := Option.map_eq_some_iff.1 builder_info
  go_enter Try.func69, Try.ntmps69
  go_wp2
  rw [Lib.run_to_unsafe w ⟨b, 0, none⟩ builder_ptr builder_unsafe hj (by rw [hjs]; decide) hsh (Nat.zero_lt_succ 1)]
  simp only [Result.andThen]
  rw [Oper.upon_value]
  go_wp2
  rw [run_callFunc_extern Try.func80 (by kernel_rfl) (by kernel_rfl) (by kernel_rfl) (e := Extern.AbiNoEscape.same) (by kernel_rfl)]
  rw [Lib.run_noEscape]
  simp only [Result.andThen]
  rw [Oper.upon_value]
  go_wp2
  rw [Lib.run_from_unsafe w ⟨b, 0, none⟩ builder_unsafe builder_ptr hj hsh builder_lies]
  simp only [Result.andThen]
  rw [Oper.upon_value]
  go_wp2
  go_end0
  exact ⟨rfl, rfl⟩

theorem checked_any (B b : Nat) (bs : List Value) (w : World) (h : Lib.IsBuilderF 90 5 B b bs w) :
    Calls Try.prog 69 #[.pointer (some ⟨b, 0, none⟩)] w fun e w' => e = .returned (.tuple #[]) ∧ (Lib.BuilderAtF 90 5 B b (.pointer (some ⟨b, 0, none⟩)) bs w' ∧ Below B w w') := by
  rcases h with h | h
  · refine (checked_fresh b w h.cell0 h.shape h.frozen0).mono ?_
    rintro e w' ⟨rfl, rfl⟩
    exact ⟨rfl, h.used _, (Below.refl B w).setCell (p := ⟨b, 0, none⟩) h.1 _⟩
  · refine (checked_used b w h.cell0).mono ?_
    rintro e w' ⟨rfl, rfl⟩
    exact ⟨rfl, h, Below.refl B w'⟩

set_option maxHeartbeats 2000000 in
set_option maxRecDepth 100000 in
theorem writeByte_any (B b : Nat) (bs : List Value) (c : Int) (w : World) (h : Lib.IsBuilderF 90 5 B b bs w) (hlen : bs.length + 1 ≤ 140737488355328) (hBw : B ≤ w.heap.size) :
    Calls Try.prog 56 #[.pointer (some ⟨b, 0, none⟩), .int .u8 c] w fun e w' => e = .returned .nilIface ∧ (Lib.IsBuilderF 90 5 B b (bs ++ [.int .u8 c]) w' ∧ Below B w w') := by
  obtain ⟨i0, hi, hz0, hz1, hz2⟩ := info_parts byte_info
  go_enter Try.func56, Try.ntmps56
  go_wp2_with (go_at_call 69; refine (checked_any B b bs _ h).mono ?_)
  rintro e w1 ⟨rfl, h1, hb1⟩
  obtain ⟨hB, v, hbk, hown, hne⟩ := h1
  have c0 : w1.cell? ⟨b, 0, none⟩ = some (.pointer (some ⟨b, 0, none⟩)) := by rw [Lib.cell_of_heap hbk]; rfl
  have c1 : w1.cell? ⟨b, 1, none⟩ = some v := by rw [Lib.cell_of_heap hbk]; rfl
  go_wp2_with (at_builtin; refine wpList_append_ownF _ rfl _ _ 88 rfl B 5 i0 (.int .u8 0) 1 1 bytes_under hi hz0 hz1 hz2 rfl (by decide) _ _ _ rfl (hown.alloc _) ⟨w1.heap.size, 0, none⟩ 1 1 [.int .u8 c] rfl rfl ?c1 ?c2 ?c3 ?c4 ?c5 ?_)
  case c1 =>
    intro j u hj
    match j, hj with
    | 0, hj => simp at hj; subst hj; simp [Addr.add]
  case c2 => intro u hu; simp at hu; subst hu; rfl
  case c3 => unfold maxLen; omega
  case c4 => omega
  case c5 => have := hb1.size; simp; omega
  intro v' w2 hown' hgrow _
  have hlt : b < w1.heap.size := by
    rcases Nat.lt_or_ge b w1.heap.size with h' | h'
    · exact h'
    · simp [Array.getElem?_eq_none h'] at hbk
  have hb2 : w2.heap[b]? = some (.cells #[.pointer (some ⟨b, 0, none⟩), v] 90 (0, 0)) := by
    rw [hgrow.block b (by simp; omega) (fun e => hne e.symm), Lib.alloc_old w1 _ b hlt]
    exact hbk
  have d0 : w2.cell? ⟨b, 0, none⟩ = some (.pointer (some ⟨b, 0, none⟩)) := by rw [Lib.cell_of_heap hb2]; rfl
  have d1 : w2.cell? ⟨b, 1, none⟩ = some v := by rw [Lib.cell_of_heap hb2]; rfl
  have f1 : w2.frozen? ⟨b, 1, none⟩ = false := Lib.frozen_of_heap hb2 1
  obtain ⟨g, cap, rfl⟩ : ∃ g cap, v' = .slice (some ⟨g, 0, none⟩) (bs.length + 1) cap := by
    rcases hown'.2 with ⟨_, h0⟩ | ⟨g, cap, cur, fz, hv, _⟩
    · omega
    · exact ⟨g, cap, hv⟩
  go_wp2
  go_ret
  refine ⟨rfl, .inr ?_, ?_⟩
  · exact Lib.BuilderAtF.put (T := 90) (e := 5) hB hb2 (bs' := bs ++ [.int .u8 c]) (by simpa using hown') (by decide)
  · exact ((hb1.alloc (by have := hb1.size; omega) _).grown hgrow (by have := hb1.size; simp; omega) (fun k hk => (hown.lt k hk).1)).setCell (p := ⟨b, 1, none⟩) hB _

/-- What a builder holds stays, where its own blocks do. -/
theorem isBuilder_kept {T e : TypeId} {B b : Nat} {bs : List Value} {w w' : World} {row : Option Nat} (h : Lib.IsBuilderF T e B b bs w) (hg : w.grownBy w' row) (hr : ∀ c, row = some c → c < B) : Lib.IsBuilderF T e B b bs w' := by
  have key : ∀ k, B ≤ k → ∀ o, w.heap[k]? = some o → w'.heap[k]? = some o := by
    intro k hk o ho
    have hlt : k < w.heap.size := (Array.getElem?_eq_some_iff.1 ho).1
    rw [hg.block k hlt (fun he => by have := hr k he.symm; omega)]
    exact ho
  have main : ∀ p, Lib.BuilderAtF T e B b p bs w → Lib.BuilderAtF T e B b p bs w' := by
    rintro p ⟨hB, v, hbk, hown, hne⟩
    refine ⟨hB, v, key b hB _ hbk, ⟨hown.1, ?_⟩, hne⟩
    rcases hown.2 with h0 | ⟨g, cap, cur, fz, hv, hbg, hg', hrest⟩
    · exact .inl h0
    · exact .inr ⟨g, cap, cur, fz, hv, hbg, key g hbg _ hg', hrest⟩
  rcases h with h | h
  · exact .inl (main _ h)
  · exact .inr (main _ h)

end Go.Proofs.Ytjklehlkgccmnaa

/- A number's text; contracts: strings.Builder's String, digits.written. -/
set_option linter.unusedVariables false
set_option linter.unusedSimpArgs false
set_option maxRecDepth 8000
namespace Go.Proofs.Ytjklehlkgccmnaa
open Go.RowKit Plain Go.Shelf

def renStr : Ren := { f := fun n => if n = 169 then 57 else n, t := fun n => if n = 70 then 87 else if n = 72 then 90 else if n = 37 then 88 else if n = 127 then 103 else n, g := fun n => n }
theorem laysStr : Lays.n169 Try.prog renStr where
  mixed := by kernel_rfl
  f169 := by kernel_rfl
  t0 := by kernel_rfl
  a0 := fun _ => by kernel_rfl
  z0 := fun _ => by kernel_rfl
  v0 := fun _ => by kernel_rfl
  t3 := by kernel_rfl
  a3 := fun _ => by kernel_rfl
  z3 := fun _ => by kernel_rfl
  v3 := fun _ => by kernel_rfl
  t9 := by kernel_rfl
  a9 := fun _ => by kernel_rfl
  z9 := fun _ => by kernel_rfl
  v9 := fun _ => by kernel_rfl
  t37 := by kernel_rfl
  a37 := fun _ => by kernel_rfl
  z37 := fun _ => by kernel_rfl
  v37 := fun _ => by kernel_rfl
  t70 := by kernel_rfl
  a70 := fun _ => by kernel_rfl
  z70 := fun _ => by kernel_rfl
  v70 := fun _ => by kernel_rfl
  t72 := by kernel_rfl
  a72 := fun _ => by kernel_rfl
  z72 := fun _ => by kernel_rfl
  v72 := fun _ => by kernel_rfl
  t127 := by kernel_rfl
  a127 := fun _ => by kernel_rfl
  z127 := fun _ => by kernel_rfl
  v127 := fun _ => by kernel_rfl
theorem extraStr : Builder.Extra Try.prog renStr where
  sizeBuilder := by kernel_rfl
  liesBuilder := by kernel_rfl
  t5 := by kernel_rfl
  a5 := fun _ => by kernel_rfl
  z5 := fun _ => by kernel_rfl
  v5 := fun _ => by kernel_rfl
  infoByte := by kernel_rfl
  cellsByte := by kernel_rfl
  sizeByte := by kernel_rfl
  neB5 := by decide
theorem builderString_any (B b : Nat) (l : List UInt8) (w : World) (h : Lib.IsBuilderF 90 5 B b (Lib.byteCells l) w) (hBw : B ≤ w.heap.size) :
    Calls Try.prog 57 #[.pointer (some ⟨b, 0, none⟩)] w fun e w' => e = .returned (.string ⟨l.toArray⟩) ∧ Below B w w' := by
  refine (Any.Builder_String_any_k laysStr extraStr B b l w h hBw).mono ?_
  rintro e w' ⟨he, _, hb, _⟩
  exact ⟨he, hb⟩

/-- A digit's sign. -/
def symN (d : Nat) : Nat := if d < 10 then 48 + d else 87 + d
theorem symN_lt {d : Nat} (h : d < 16) : symN d < 256 := by unfold symN; split <;> omega
theorem worth_sym {d : Nat} (h : d < 16) : worthN (symN d : Nat) = d := by
  unfold worthN symN
  split
  · rw [if_pos (by omega)]; omega
  · rw [if_neg (by omega), if_pos (by omega)]; omega
/-- A text of n digits, f 0 at the front. -/
def txt (f : Nat → Nat) (n : Nat) : List UInt8 := (List.range n).map fun k => UInt8.ofNat (symN (f k))
theorem txt_len (f : Nat → Nat) (n : Nat) : (txt f n).length = n := by simp [txt]
theorem txt_succ (f : Nat → Nat) (n : Nat) : txt f (n + 1) = txt f n ++ [UInt8.ofNat (symN (f n))] := by simp [txt, List.range_succ]
theorem txt_size (f : Nat → Nat) (n : Nat) : (⟨(txt f n).toArray⟩ : ByteArray).size = n := by
  show (txt f n).toArray.size = n
  simp [txt]
theorem txt_byte (f : Nat → Nat) (n k : Nat) (hk : k < n) (hf : f k < 16) : byteN ⟨(txt f n).toArray⟩ k = symN (f k) := by
  have hs : k < (⟨(txt f n).toArray⟩ : ByteArray).size := by rw [txt_size]; exact hk
  rw [← byte_at _ k hs]
  show ((txt f n).toArray[k]'hs).toNat = _
  rw [show (txt f n).toArray[k]'hs = UInt8.ofNat (symN (f k)) from by simp [txt]]
  rw [UInt8.toNat_ofNat']
  exact Nat.mod_eq_of_lt (symN_lt hf)
theorem byteCells_snoc (l : List UInt8) (d : Nat) (h : d < 16) : Lib.byteCells l ++ [.int .u8 ((symN d : Nat) : Int)] = Lib.byteCells (l ++ [UInt8.ofNat (symN d)]) := by
  rw [Lib.byteCells_append]
  congr 1
  show _ = [Value.int .u8 ((UInt8.ofNat (symN d)).toNat : Nat)]
  rw [UInt8.toNat_ofNat', Nat.mod_eq_of_lt (symN_lt h)]
theorem symbols_at (d : Nat) (h : d < 16) (h' : d < (ByteArray.mk #[48, 49, 50, 51, 52, 53, 54, 55, 56, 57, 97, 98, 99, 100, 101, 102]).size) : (((ByteArray.mk #[48, 49, 50, 51, 52, 53, 54, 55, 56, 57, 97, 98, 99, 100, 101, 102])[d]'h').toNat : Int) = ((symN d : Nat) : Int) := by
  match d, h with
  | 0, _ | 1, _ | 2, _ | 3, _ | 4, _ | 5, _ | 6, _ | 7, _ | 8, _ | 9, _ | 10, _ | 11, _ | 12, _ | 13, _ | 14, _ | 15, _ => rfl
  | n + 16, h => omega

structure WriSt (w : World) (row : Option Nat) (l : List UInt8) (W : World) : Prop where
  bld : Lib.IsBuilderF 90 5 w.heap.size w.heap.size (Lib.byteCells l) W
  grw : w.grownBy W row
theorem WriSt.kept {w : World} {row : Option Nat} {l : List UInt8} {W W' : World} (h : WriSt w row l W) (hr : ∀ c, row = some c → c < w.heap.size) (hg : W.grownBy W' row) : WriSt w row l W' :=
  ⟨isBuilder_kept h.bld hg hr, grownBy_trans h.grw hg⟩

set_option maxHeartbeats 2000000 in
theorem written_any (fid : Nat) (caps : Array Value) (n : Nat) (f : Nat → Nat) (I : Nat → World → Prop) (row : Option Nat) (w : World) (hn : n ≤ 1000000) (hf : ∀ k, k < n → f k < 16)
    (hent : ∀ args w, (callFunc fid args).run Try.prog w = .ok (.enter fid args) w) (hrow : ∀ c, row = some c → c < w.heap.size)
    (hcall : ∀ k p wr, k < n → k + 1 + p = n → I k wr → w.heap.size ≤ wr.heap.size → Calls Try.prog fid (#[.int .i64 (p : Nat)] ++ caps) wr fun e w' => e = .returned (.int .i64 (f k : Nat)) ∧ I (k + 1) w' ∧ wr.grownBy w' row)
    (hst : ∀ i wr wr', I i wr → Below w.heap.size wr wr' → I i wr') (h0 : I 0 w) :
    Calls Try.prog 33 #[.int .i64 (n : Nat), .func (.func fid) #[] caps] w fun e w' => e = .returned (.string ⟨(txt f n).toArray⟩) ∧ I n w' ∧ w.grownBy w' row := by
  have HC := hide hcall
  have HS := hide hst
  have H0 := hide h0
  have HR := hide hrow
  have HF := hide hf
  clear hcall hst h0 hrow hf
  have hn' : (n : Int) ≤ 1000000 := by omega
  go_enter Try.func33, Try.ntmps33
  go_wp2
  go_loopw [6] (fun i wr => ∃ (k : Nat) (z : Int), k ≤ n ∧ i = .int .i64 z ∧ z = (n : Int) - 1 - (k : Int) ∧ Hid (WriSt w row (txt f k) wr) ∧ Hid (I k wr))
    (fun i _ => (intOf i + 1).toNat)
  case atStart =>
    have hb := below_allocs w (.cells #[.pointer none, .slice none 0 0] 90)
    refine ⟨0, _, Nat.zero_le _, rfl, by omega, ⟨Lib.IsBuilderF.of (Lib.fresh_isBuilder 90 5 w), grownBy_of_below hb row⟩, HS.out _ _ _ H0.out hb⟩
  case round =>
    obtain ⟨k, z, hk, rfl, hz, hst, hI⟩ := hrel
    clear H0
    by_cases hlt : k < n
    · obtain ⟨p, hp⟩ : ∃ p, k + 1 + p = n := ⟨n - (k + 1), by omega⟩
      have hz2 : z = (p : Int) := by omega
      subst hz2
      clear hz
      have hsz := hst.out.grw.size
      have hfk := HF.out k hlt
      have hsy := symbols_at (f k) hfk hfk
      have HCK := hide (HC.out k p wr hlt hp hI.out hsz)
      have HTS := hide (txt_succ f k)
      have HLN := hide (show (Lib.byteCells (txt f k)).length + 1 ≤ 140737488355328 from by rw [Lib.byteCells_length, txt_len]; omega)
      have HSN := hide (byteCells_snoc (txt f k) (f k) hfk)
      have hp0 : (0 : Int) ≤ (p : Int) := by omega
      clear HC HF hI
      generalize f k = d at *
      have hd' : (d : Int) < 16 := by omega
      go_wp2_with fail
      refine HCK.out.mono ?_
      rintro e w1 ⟨rfl, hI1, hg1⟩
      have HS1 := hide (hst.out.kept HR.out hg1)
      have HI1 := hide hI1
      clear hI1 hg1 hst HCK
      go_wp2_with fail
      refine (writeByte_any w.heap.size w.heap.size _ _ _ HS1.out.bld HLN.out (by have := HS1.out.grw.size; exact this)).mono ?_
      rintro e w2 ⟨rfl, hbl, hb2⟩
      rw [HSN.out, ← HTS.out] at hbl
      have HI2 := hide (HS.out _ _ _ HI1.out hb2)
      have HS2 := hide (WriSt.mk hbl (grownBy_then HS1.out.grw (Nat.le_refl _) hb2))
      clear hbl hb2 HS1 HI1 HSN HLN
      go_wp2
      go_roundw
      case rel => exact ⟨k + 1, _, by omega, by go_num, (show (p : Int) - 1 = (n : Int) - 1 - ((k + 1 : Nat) : Int) by omega), HS2, HI2⟩
      case measure => simp [intOf]
    · have hkn : k = n := by omega
      subst hkn
      have hneg : ¬ (0 : Int) ≤ z := by omega
      clear hz
      go_wp2_with fail
      refine (builderString_any w.heap.size w.heap.size (txt f k) _ hst.out.bld (by have := hst.out.grw.size; exact this)).mono ?_
      rintro e w2 ⟨rfl, hb2⟩
      have HI2 := hide (HS.out _ _ _ hI.out hb2)
      have HG2 := hide (grownBy_then hst.out.grw (Nat.le_refl _) hb2)
      clear hb2 hst hI
      go_wp2
      go_ret
      exact ⟨rfl, HI2.out, HG2.out⟩

end Go.Proofs.Ytjklehlkgccmnaa

/- A number's digits, and its text read again; contracts: digits.inHex, Hex, Word. -/
set_option linter.unusedVariables false
set_option linter.unusedSimpArgs false
set_option maxRecDepth 8000
namespace Go.Proofs.Ytjklehlkgccmnaa
open Go.RowKit Plain

/-- The digit number k, from the front, of a number's n lowest digits. -/
def digN (base a n k : Nat) : Nat := a / base ^ (n - 1 - k) % base
theorem digN_lt {base : Nat} (hb : 0 < base) (a n k : Nat) : digN base a n k < base := Nat.mod_lt _ hb
/-- The text of a number's n lowest digits. -/
def textN (base a n : Nat) : ByteArray := ⟨(txt (digN base a n) n).toArray⟩
theorem textN_size (base a n : Nat) : (textN base a n).size = n := txt_size _ _
theorem textN_byte {base : Nat} (hb : 0 < base) (hb2 : base ≤ 16) (a n k : Nat) (hk : k < n) : byteN (textN base a n) k = symN (digN base a n k) :=
  txt_byte _ n k hk (Nat.lt_of_lt_of_le (digN_lt hb a n k) hb2)
theorem textN_worth {base : Nat} (hb : 0 < base) (hb2 : base ≤ 16) (a n k : Nat) (hk : k < n) : worthN (byteN (textN base a n) k : Nat) = digN base a n k := by
  rw [textN_byte hb hb2 a n k hk]
  exact worth_sym (Nat.lt_of_lt_of_le (digN_lt hb a n k) hb2)
theorem textN_good {base : Nat} (hb : 0 < base) (hb2 : base ≤ 16) (a n : Nat) : goodN base (textN base a n) n := fun i hi => by
  rw [textN_worth hb hb2 a n i hi]
  exact digN_lt hb a n i
theorem textN_num {base : Nat} (hb : 0 < base) (hb2 : base ≤ 16) (a n : Nat) : ∀ k, k ≤ n → numN base (textN base a n) k = a / base ^ (n - k) % base ^ k
  | 0, _ => by rw [Nat.pow_zero, Nat.mod_one]; rfl
  | k + 1, hk => by
    show base * numN base (textN base a n) k + worthN (byteN (textN base a n) k : Nat) = _
    rw [textN_num hb hb2 a n k (by omega), textN_worth hb hb2 a n k (by omega)]
    unfold digN
    have h1 : n - k = (n - (k + 1)) + 1 := by omega
    have h2 : n - 1 - k = n - (k + 1) := by omega
    rw [h1, h2, Nat.pow_succ, ← Nat.div_div_eq_div_mul]
    generalize a / base ^ (n - (k + 1)) = q
    rw [Nat.pow_succ, Nat.mul_comm (base ^ k) base, Nat.mod_mul]
    omega
theorem textN_all {base : Nat} (hb : 0 < base) (hb2 : base ≤ 16) (a n : Nat) (h : a < base ^ n) : numN base (textN base a n) (textN base a n).size = a := by
  rw [textN_size, textN_num hb hb2 a n n (Nat.le_refl _), Nat.sub_self, Nat.pow_zero, Nat.div_one]
  exact Nat.mod_eq_of_lt h
theorem sym_zero {d : Nat} (h : symN d = 48) : d = 0 := by
  unfold symN at h
  split at h <;> omega
theorem textN_plain {base : Nat} (hb : 1 < base) (hb2 : base ≤ 16) (a n : Nat) (hn : 0 < n) (h : a < base ^ n) (h2 : n = 1 ∨ base ^ (n - 1) ≤ a) : plainN base (textN base a n) := by
  refine ⟨by rw [textN_size]; exact hn, by rw [textN_size]; exact textN_good (by omega) hb2 a n, ?_⟩
  rcases h2 with h2 | h2
  · right; rw [textN_size]; exact h2
  · left
    rw [textN_byte (by omega) hb2 a n 0 hn]
    intro h3
    have h4 := sym_zero h3
    unfold digN at h4
    rw [Nat.sub_zero] at h4
    have h5 : 0 < a / base ^ (n - 1) := Nat.div_pos h2 (Nat.pow_pos (by omega))
    have h6 : a / base ^ (n - 1) < base := by
      rw [Nat.div_lt_iff_lt_mul (Nat.pow_pos (by omega)), Nat.mul_comm, ← Nat.pow_succ]
      rw [show (n - 1).succ = n by omega]
      exact h
    rw [Nat.mod_eq_of_lt h6] at h4
    omega
theorem textN_told {base : Nat} (hb : 1 < base) (hb2 : base ≤ 16) (a n : Nat) (hn : 0 < n) (h : a < base ^ n) (h2 : n = 1 ∨ base ^ (n - 1) ≤ a) (ha : a < QQ) : Told (plainN base (textN base a n)) base (textN base a n) a 0 :=
  .inl ⟨textN_plain hb hb2 a n hn h h2, by rw [textN_all (by omega) hb2 a n h]; exact ha, (textN_all (by omega) hb2 a n h).symm, rfl⟩

theorem dgl_low (x : Nat) : dgl x 0 % 16 = x % 16 := by
  unfold dgl
  rw [Nat.pow_zero, Nat.div_one]
  exact Nat.mod_mod_of_dvd x (by decide)
theorem pow4 (p : Nat) : 2 ^ (4 * p) = 16 ^ p := by rw [Nat.pow_mul]

set_option maxHeartbeats 1000000 in
theorem inHex1_any (a p A : Nat) (ha : a < QQ) (hp : p < 128) (w : World) (hl : LiesF w A (dgl a)) :
    Calls Try.prog 50 #[.int .i64 (p : Nat), .pointer (some ⟨A, 0, none⟩)] w fun e w' => e = .returned (.int .i64 ((a / 16 ^ p % 16 : Nat) : Int)) ∧ Below w.heap.size w w' := by
  have HS := hide (fun w => wideShr_any a (4 * p) (4 * (p : Int)) (by unfold roomI; omega) ha w)
  rw [pow4] at HS
  have HD := hide (dgl_low (a / 16 ^ p))
  generalize hN : a / 16 ^ p = N at *
  clear hN
  have hca := hl.1
  have hla := hl.2
  have hp' : (p : Int) < 128 := by omega
  go_enter Try.func50, Try.ntmps50
  go_wp2_with fail
  refine (HS.out _).mono ?_
  rintro e w1 ⟨rfl, hb1⟩
  have HB := hide hb1
  clear hb1 hca hl hla
  go_wp2
  go_ret
  refine ⟨ret_int ?_, ?_⟩
  · rw [← HD.out]
    omega
  · exact below_trans HB.out (below_allocs w1 _)

set_option maxHeartbeats 1000000 in
theorem inHex_any (a n : Nat) (ha : a < QQ) (hn : n ≤ 128) (w : World) :
    Calls Try.prog 25 #[.agg #[.int .u64 (dgl (a) 0 : Nat), .int .u64 (dgl (a) 1 : Nat), .int .u64 (dgl (a) 2 : Nat), .int .u64 (dgl (a) 3 : Nat), .int .u64 (dgl (a) 4 : Nat), .int .u64 (dgl (a) 5 : Nat), .int .u64 (dgl (a) 6 : Nat), .int .u64 (dgl (a) 7 : Nat)], .int .i64 (n : Nat)] w fun e w' => e = .returned (.string (textN 16 a n)) ∧ Below w.heap.size w w' := by
  have HL := hide (liesF_new w (dgl a) 24)
  have HB0 := hide (below_allocs w (.cells #[.int .u64 ((dgl a) 0 : Nat), .int .u64 ((dgl a) 1 : Nat), .int .u64 ((dgl a) 2 : Nat), .int .u64 ((dgl a) 3 : Nat), .int .u64 ((dgl a) 4 : Nat), .int .u64 ((dgl a) 5 : Nat), .int .u64 ((dgl a) 6 : Nat), .int .u64 ((dgl a) 7 : Nat)] 24))
  have HW : Hid (∀ W, W = (w.alloc (.cells #[.int .u64 ((dgl a) 0 : Nat), .int .u64 ((dgl a) 1 : Nat), .int .u64 ((dgl a) 2 : Nat), .int .u64 ((dgl a) 3 : Nat), .int .u64 ((dgl a) 4 : Nat), .int .u64 ((dgl a) 5 : Nat), .int .u64 ((dgl a) 6 : Nat), .int .u64 ((dgl a) 7 : Nat)] 24)) → Calls Try.prog 33 #[.int .i64 (n : Nat), .func (.func 50) #[] #[.pointer (some ⟨w.heap.size, 0, none⟩)]] W fun e w' => e = .returned (.string (textN 16 a n)) ∧ Below W.heap.size W w') := by
    intro W hW
    refine (written_any 50 #[.pointer (some ⟨w.heap.size, 0, none⟩)] n (digN 16 a n) (fun _ wr => LiesF wr w.heap.size (dgl a)) none W (by omega) (fun k hk => digN_lt (by decide) a n k) (enters_of Try.func50 (by kernel_rfl) rfl) (fun c hc => by simp at hc) ?_ ?_ ?_).mono ?_
    · intro k p wr hk hp hI hsz
      refine (inHex1_any a p w.heap.size ha (by omega) wr hI).mono ?_
      rintro e w' ⟨rfl, hb⟩
      refine ⟨?_, hI.below hb, grownBy_of_below hb _⟩
      unfold digN
      rw [show n - 1 - k = p by omega]
    · intro i wr wr' hI hb
      exact lies_box hI hb (by rw [hW]; simp)
    · rw [hW]; exact HL.out
    · rintro e w' ⟨rfl, hI, hg⟩
      exact ⟨rfl, below_of_grownBy hg (Nat.le_refl _) (fun k hk => by simp at hk)⟩
  go_enter Try.func25, Try.ntmps25
  go_wp2_with fail
  refine (HW.out _ rfl).mono ?_
  rintro e w1 ⟨rfl, hb1⟩
  have HB := hide (below_trans HB0.out hb1)
  clear hb1
  go_wp2
  go_ret
  exact ⟨rfl, HB.out⟩

end Go.Proofs.Ytjklehlkgccmnaa

