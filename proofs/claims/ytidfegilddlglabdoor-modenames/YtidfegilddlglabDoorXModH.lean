/- Contracts and laws: ModH. -/
import Derived.Test.YtidfegilddlglabDoorRows
import Derived.Test.YtidfegilddlglabDoorXModD
import Derived.ProofKit
import Derived.OpenShut
import Derived.ChangeMaps5
import Derived.Lib.SmallJoins
import Derived.Stop.Joined
import Derived.LaidMore
/- Contracts: mode.Name, ByName; what the table of modes' names holds. -/
set_option linter.unusedVariables false
set_option linter.unusedSimpArgs false
set_option maxRecDepth 8000
namespace Go.Proofs.YtidfegilddlglabDoor
open Go.RowKit Plain Go.ChangeShapes Go.WideShapes

def mnmL : List (List UInt8) := [[101, 118, 101, 110], [97, 119, 97, 121], [122, 101, 114, 111], [117, 112], [100, 111, 119, 110]]
section
variable {H : Type} {enc : TypeId × Value → H} {W : World} {base : Nat} {sp : Nat → Bool} {held : Bool}
theorem mnm_one {n : Nat} {c : Value} {x : DataW H × List MemPlace} {a : List UInt8} (h : DataW.trod enc Tryd.prog W base sp held n 9 [c] = some x) (hx : x.1 = .lit (.string a)) : c = .string ⟨a.toArray⟩ := by
  obtain ⟨k, e1, e2, _⟩ := DataW.trod_string Tryd.underlying9 h
  simp at e1
  subst e1
  rw [e2] at hx
  simp at hx
  rw [← hx]
theorem mlist5 {l : List Value} (h : l.length = 5) : ∃ a b c d e, l = [a, b, c, d, e] := by
  match l, h with
  | [a, b, c, d, e], _ => exact ⟨a, b, c, d, e, rfl⟩
theorem mnm_all {fuel : Nat} {cs : List Value} {p : List MemPlace} (h : DataW.trod enc Tryd.prog W base sp held fuel 31 cs = some (Rows.laid_radicand_mode_names, p)) : cs = mnmL.map (fun l => Value.string ⟨l.toArray⟩) := by
  obtain ⟨xs, m, _, hx, hl, hlen, hf⟩ := DataW.trod_array Tryd.underlying31 h
  have hl5 : cs.length = 5 := hl.trans (by kernel_rfl)
  have c1 : Tryd.prog.cellsOf 9 = 1 := by kernel_rfl
  obtain ⟨c0, c1', c2, c3, c4, rfl⟩ := mlist5 hl5
  match xs, hlen, hx, hf with
  | [y0, y1, y2, y3, y4], _, hx, hf =>
    unfold Rows.laid_radicand_mode_names at hx
    simp only [List.map_cons, List.map_nil, Prod.mk.injEq, DataW.agg.injEq, List.cons.injEq] at hx
    have g0 := hf 0 (by decide)
    have g1 := hf 1 (by decide)
    have g2 := hf 2 (by decide)
    have g3 := hf 3 (by decide)
    have g4 := hf 4 (by decide)
    rw [c1] at g0 g1 g2 g3 g4
    rw [mnm_one g0 hx.1.1.symm, mnm_one g1 hx.1.2.1.symm, mnm_one g2 hx.1.2.2.1.symm, mnm_one g3 hx.1.2.2.2.1.symm, mnm_one g4 hx.1.2.2.2.2.1.symm]
    rfl
end
structure NamM (W : World) : Prop where
  c : ∀ i, i < 5 → W.cell? ⟨0, i, none⟩ = some (.string ⟨(mnmL.getD i []).toArray⟩)
  lt : 0 < W.heap.size
theorem NamM.below {W W' : World} (h : NamM W) (hb : Below W.heap.size W W') : NamM W' :=
  ⟨fun i hi => (hb.cell (p := ⟨0, i, none⟩) h.lt).trans (h.c i hi), Nat.lt_of_lt_of_le h.lt hb.size⟩
theorem gMNames : Tryd.prog.globalNamed "radicand/mode.names" = some 0 := by kernel_rfl -- of type 31
theorem tMNames : (Tryd.prog.globals[0]?).map (·.type) = some 31 := by kernel_rfl
theorem of_laidM {W : World} (h : laidMetH Tryd.prog [("radicand/mode.names", Rows.laid_radicand_mode_names)] W) : NamM W := by
  rw [MakeChecks.laidMetH_plain _ _ _ (by kernel_rfl)] at h
  obtain ⟨ps, ⟨g0, t0, cs0, f0, p0, q0, hg0, ht0, hv0, hd0, _, _⟩, _, _⟩ := h
  obtain rfl := Option.some.inj (gMNames.symm.trans hg0)
  obtain rfl := Option.some.inj (tMNames.symm.trans ht0)
  have h0 := mnm_all hd0
  have k0 : ∀ i, i < 5 → W.cell? ⟨0, i, none⟩ = some (.string ⟨(mnmL.getD i []).toArray⟩) := fun i hi => by
    rw [World.var?_cell hg0 hv0 i, ← Array.getElem?_toList, h0, List.getElem?_map]
    match i, hi with
    | 0, _ | 1, _ | 2, _ | 3, _ | 4, _ => rfl
    | n + 5, hi => omega
  refine ⟨k0, ?_⟩
  have h1 := k0 0 (by decide)
  rcases Nat.lt_or_ge 0 W.heap.size with h2 | h2
  · exact h2
  · simp [World.cell?, Array.getElem?_eq_none h2] at h1

theorem mirror_no (m : Int) (h : isM m = false) (w : World) : Calls Tryd.prog 8 #[.int .i64 m] w fun e w' => e = .returned (.int .i64 0) ∧ w' = w := by
  have HM := fun w => modeIs_any m w
  rw [h] at HM
  go_enter Tryd.func8, Tryd.ntmps8
  go_wp2_with fail
  refine (HM _).mono ?_
  rintro e wl ⟨rfl, hw⟩
  subst wl
  go_wp2
  go_ret
  exact ⟨rfl, rfl⟩
theorem mname_none (m : Int) (h : isM m = false) (w : World) : Calls Tryd.prog 7 #[.int .i64 m] w fun e w' => e = .returned (.string ⟨#[]⟩) ∧ w' = w := by
  have HM := fun w => modeIs_any m w
  rw [h] at HM
  go_enter Tryd.func7, Tryd.ntmps7
  go_wp2_with fail
  refine (HM _).mono ?_
  rintro e wl ⟨rfl, hw⟩
  subst wl
  go_wp2
  go_ret
  exact ⟨rfl, rfl⟩
theorem mname_1 (w : World) (hg : NamM w) : Calls Tryd.prog 7 #[.int .i64 1] w fun e w' => e = .returned (.string ⟨#[101, 118, 101, 110]⟩) ∧ w' = w := by
  have HM := fun w => modeIs_any 1 w
  rw [show isM 1 = true from rfl] at HM
  have c : w.cell? ⟨0, 0, none⟩ = some (.string ⟨#[101, 118, 101, 110]⟩) := hg.c 0 (by decide)
  have hlt := hg.lt
  clear hg
  go_enter Tryd.func7, Tryd.ntmps7
  go_wp2_with fail
  refine (HM _).mono ?_
  rintro e wl ⟨rfl, hw⟩
  subst wl
  go_wp2
  go_ret
  exact ⟨rfl, rfl⟩
theorem mname_2 (w : World) (hg : NamM w) : Calls Tryd.prog 7 #[.int .i64 2] w fun e w' => e = .returned (.string ⟨#[97, 119, 97, 121]⟩) ∧ w' = w := by
  have HM := fun w => modeIs_any 2 w
  rw [show isM 2 = true from rfl] at HM
  have c : w.cell? ⟨0, 1, none⟩ = some (.string ⟨#[97, 119, 97, 121]⟩) := hg.c 1 (by decide)
  have hlt := hg.lt
  clear hg
  go_enter Tryd.func7, Tryd.ntmps7
  go_wp2_with fail
  refine (HM _).mono ?_
  rintro e wl ⟨rfl, hw⟩
  subst wl
  go_wp2
  go_ret
  exact ⟨rfl, rfl⟩
theorem mname_3 (w : World) (hg : NamM w) : Calls Tryd.prog 7 #[.int .i64 3] w fun e w' => e = .returned (.string ⟨#[122, 101, 114, 111]⟩) ∧ w' = w := by
  have HM := fun w => modeIs_any 3 w
  rw [show isM 3 = true from rfl] at HM
  have c : w.cell? ⟨0, 2, none⟩ = some (.string ⟨#[122, 101, 114, 111]⟩) := hg.c 2 (by decide)
  have hlt := hg.lt
  clear hg
  go_enter Tryd.func7, Tryd.ntmps7
  go_wp2_with fail
  refine (HM _).mono ?_
  rintro e wl ⟨rfl, hw⟩
  subst wl
  go_wp2
  go_ret
  exact ⟨rfl, rfl⟩
theorem mname_4 (w : World) (hg : NamM w) : Calls Tryd.prog 7 #[.int .i64 4] w fun e w' => e = .returned (.string ⟨#[117, 112]⟩) ∧ w' = w := by
  have HM := fun w => modeIs_any 4 w
  rw [show isM 4 = true from rfl] at HM
  have c : w.cell? ⟨0, 3, none⟩ = some (.string ⟨#[117, 112]⟩) := hg.c 3 (by decide)
  have hlt := hg.lt
  clear hg
  go_enter Tryd.func7, Tryd.ntmps7
  go_wp2_with fail
  refine (HM _).mono ?_
  rintro e wl ⟨rfl, hw⟩
  subst wl
  go_wp2
  go_ret
  exact ⟨rfl, rfl⟩
theorem mname_5 (w : World) (hg : NamM w) : Calls Tryd.prog 7 #[.int .i64 5] w fun e w' => e = .returned (.string ⟨#[100, 111, 119, 110]⟩) ∧ w' = w := by
  have HM := fun w => modeIs_any 5 w
  rw [show isM 5 = true from rfl] at HM
  have c : w.cell? ⟨0, 4, none⟩ = some (.string ⟨#[100, 111, 119, 110]⟩) := hg.c 4 (by decide)
  have hlt := hg.lt
  clear hg
  go_enter Tryd.func7, Tryd.ntmps7
  go_wp2_with fail
  refine (HM _).mono ?_
  rintro e wl ⟨rfl, hw⟩
  subst wl
  go_wp2
  go_ret
  exact ⟨rfl, rfl⟩
theorem mnameAt_1 (w : World) : (Instr.index 31 (.agg #[.string ⟨#[101, 118, 101, 110]⟩, .string ⟨#[97, 119, 97, 121]⟩, .string ⟨#[122, 101, 114, 111]⟩, .string ⟨#[117, 112]⟩, .string ⟨#[100, 111, 119, 110]⟩]) (.int .i64 0)).run Tryd.prog w = .ok (.string ⟨#[101, 118, 101, 110]⟩) w := by kernel_rfl
theorem mnameAt_2 (w : World) : (Instr.index 31 (.agg #[.string ⟨#[101, 118, 101, 110]⟩, .string ⟨#[97, 119, 97, 121]⟩, .string ⟨#[122, 101, 114, 111]⟩, .string ⟨#[117, 112]⟩, .string ⟨#[100, 111, 119, 110]⟩]) (.int .i64 1)).run Tryd.prog w = .ok (.string ⟨#[97, 119, 97, 121]⟩) w := by kernel_rfl
theorem mnameAt_3 (w : World) : (Instr.index 31 (.agg #[.string ⟨#[101, 118, 101, 110]⟩, .string ⟨#[97, 119, 97, 121]⟩, .string ⟨#[122, 101, 114, 111]⟩, .string ⟨#[117, 112]⟩, .string ⟨#[100, 111, 119, 110]⟩]) (.int .i64 2)).run Tryd.prog w = .ok (.string ⟨#[122, 101, 114, 111]⟩) w := by kernel_rfl
theorem mnameAt_4 (w : World) : (Instr.index 31 (.agg #[.string ⟨#[101, 118, 101, 110]⟩, .string ⟨#[97, 119, 97, 121]⟩, .string ⟨#[122, 101, 114, 111]⟩, .string ⟨#[117, 112]⟩, .string ⟨#[100, 111, 119, 110]⟩]) (.int .i64 3)).run Tryd.prog w = .ok (.string ⟨#[117, 112]⟩) w := by kernel_rfl
theorem mnameAt_5 (w : World) : (Instr.index 31 (.agg #[.string ⟨#[101, 118, 101, 110]⟩, .string ⟨#[97, 119, 97, 121]⟩, .string ⟨#[122, 101, 114, 111]⟩, .string ⟨#[117, 112]⟩, .string ⟨#[100, 111, 119, 110]⟩]) (.int .i64 4)).run Tryd.prog w = .ok (.string ⟨#[100, 111, 119, 110]⟩) w := by kernel_rfl

set_option maxHeartbeats 1000000 in
theorem mbyName_1 (s : ByteArray) (e1 : ([101, 118, 101, 110] == s.toList) = true) (w : World) (hg : NamM w) : Calls Tryd.prog 5 #[.string s] w fun e w' => e = .returned (.tuple #[.int .i64 1, .bool true]) ∧ w' = w := by
  have c0 : w.cell? ⟨0, 0, none⟩ = some (.string ⟨#[101, 118, 101, 110]⟩) := hg.c 0 (by decide)
  have c1 : w.cell? ⟨0, 1, none⟩ = some (.string ⟨#[97, 119, 97, 121]⟩) := hg.c 1 (by decide)
  have c2 : w.cell? ⟨0, 2, none⟩ = some (.string ⟨#[122, 101, 114, 111]⟩) := hg.c 2 (by decide)
  have c3 : w.cell? ⟨0, 3, none⟩ = some (.string ⟨#[117, 112]⟩) := hg.c 3 (by decide)
  have c4 : w.cell? ⟨0, 4, none⟩ = some (.string ⟨#[100, 111, 119, 110]⟩) := hg.c 4 (by decide)
  have hlt := hg.lt
  have x0 := fun w => mnameAt_1 w
  have x1 := fun w => mnameAt_2 w
  have x2 := fun w => mnameAt_3 w
  have x3 := fun w => mnameAt_4 w
  have x4 := fun w => mnameAt_5 w
  clear hg
  go_enter Tryd.func5, Tryd.ntmps5
  go_wp2
  go_loop [7] (fun i => ∃ k : Nat, k ≤ 0 ∧ i = .int .i64 k) (fun i => 0 - (intOf i).toNat)
  case atStart => exact ⟨0, by decide, rfl⟩
  case round =>
    obtain ⟨k, hk, rfl⟩ := hrel
    have hk5 : k = 0 := by omega
    clear c0 c1 c2 c3 c4 hlt
    subst hk5
    · go_wp2
      exact bodyPost_ret (v := .tuple #[.int .i64 1, .bool true]) (by simp [results, Tryd.results5, go_sem]) rfl ⟨rfl, rfl⟩

set_option maxHeartbeats 1000000 in
theorem mbyName_2 (s : ByteArray) (e1 : ([101, 118, 101, 110] == s.toList) = false) (e2 : ([97, 119, 97, 121] == s.toList) = true) (w : World) (hg : NamM w) : Calls Tryd.prog 5 #[.string s] w fun e w' => e = .returned (.tuple #[.int .i64 2, .bool true]) ∧ w' = w := by
  have c0 : w.cell? ⟨0, 0, none⟩ = some (.string ⟨#[101, 118, 101, 110]⟩) := hg.c 0 (by decide)
  have c1 : w.cell? ⟨0, 1, none⟩ = some (.string ⟨#[97, 119, 97, 121]⟩) := hg.c 1 (by decide)
  have c2 : w.cell? ⟨0, 2, none⟩ = some (.string ⟨#[122, 101, 114, 111]⟩) := hg.c 2 (by decide)
  have c3 : w.cell? ⟨0, 3, none⟩ = some (.string ⟨#[117, 112]⟩) := hg.c 3 (by decide)
  have c4 : w.cell? ⟨0, 4, none⟩ = some (.string ⟨#[100, 111, 119, 110]⟩) := hg.c 4 (by decide)
  have hlt := hg.lt
  have x0 := fun w => mnameAt_1 w
  have x1 := fun w => mnameAt_2 w
  have x2 := fun w => mnameAt_3 w
  have x3 := fun w => mnameAt_4 w
  have x4 := fun w => mnameAt_5 w
  clear hg
  go_enter Tryd.func5, Tryd.ntmps5
  go_wp2
  go_loop [7] (fun i => ∃ k : Nat, k ≤ 1 ∧ i = .int .i64 k) (fun i => 1 - (intOf i).toNat)
  case atStart => exact ⟨0, by decide, rfl⟩
  case round =>
    obtain ⟨k, hk, rfl⟩ := hrel
    have hk5 : k = 0 ∨ k = 1 := by omega
    clear c0 c1 c2 c3 c4 hlt
    rcases hk5 with rfl | rfl
    · go_wp2
      go_round
      case rel => exact ⟨1, by decide, rfl⟩
      case measure => decide
    · go_wp2
      exact bodyPost_ret (v := .tuple #[.int .i64 2, .bool true]) (by simp [results, Tryd.results5, go_sem]) rfl ⟨rfl, rfl⟩

set_option maxHeartbeats 1000000 in
theorem mbyName_3 (s : ByteArray) (e1 : ([101, 118, 101, 110] == s.toList) = false) (e2 : ([97, 119, 97, 121] == s.toList) = false) (e3 : ([122, 101, 114, 111] == s.toList) = true) (w : World) (hg : NamM w) : Calls Tryd.prog 5 #[.string s] w fun e w' => e = .returned (.tuple #[.int .i64 3, .bool true]) ∧ w' = w := by
  have c0 : w.cell? ⟨0, 0, none⟩ = some (.string ⟨#[101, 118, 101, 110]⟩) := hg.c 0 (by decide)
  have c1 : w.cell? ⟨0, 1, none⟩ = some (.string ⟨#[97, 119, 97, 121]⟩) := hg.c 1 (by decide)
  have c2 : w.cell? ⟨0, 2, none⟩ = some (.string ⟨#[122, 101, 114, 111]⟩) := hg.c 2 (by decide)
  have c3 : w.cell? ⟨0, 3, none⟩ = some (.string ⟨#[117, 112]⟩) := hg.c 3 (by decide)
  have c4 : w.cell? ⟨0, 4, none⟩ = some (.string ⟨#[100, 111, 119, 110]⟩) := hg.c 4 (by decide)
  have hlt := hg.lt
  have x0 := fun w => mnameAt_1 w
  have x1 := fun w => mnameAt_2 w
  have x2 := fun w => mnameAt_3 w
  have x3 := fun w => mnameAt_4 w
  have x4 := fun w => mnameAt_5 w
  clear hg
  go_enter Tryd.func5, Tryd.ntmps5
  go_wp2
  go_loop [7] (fun i => ∃ k : Nat, k ≤ 2 ∧ i = .int .i64 k) (fun i => 2 - (intOf i).toNat)
  case atStart => exact ⟨0, by decide, rfl⟩
  case round =>
    obtain ⟨k, hk, rfl⟩ := hrel
    have hk5 : k = 0 ∨ k = 1 ∨ k = 2 := by omega
    clear c0 c1 c2 c3 c4 hlt
    rcases hk5 with rfl | rfl | rfl
    · go_wp2
      go_round
      case rel => exact ⟨1, by decide, rfl⟩
      case measure => decide
    · go_wp2
      go_round
      case rel => exact ⟨2, by decide, rfl⟩
      case measure => decide
    · go_wp2
      exact bodyPost_ret (v := .tuple #[.int .i64 3, .bool true]) (by simp [results, Tryd.results5, go_sem]) rfl ⟨rfl, rfl⟩

set_option maxHeartbeats 1000000 in
theorem mbyName_4 (s : ByteArray) (e1 : ([101, 118, 101, 110] == s.toList) = false) (e2 : ([97, 119, 97, 121] == s.toList) = false) (e3 : ([122, 101, 114, 111] == s.toList) = false) (e4 : ([117, 112] == s.toList) = true) (w : World) (hg : NamM w) : Calls Tryd.prog 5 #[.string s] w fun e w' => e = .returned (.tuple #[.int .i64 4, .bool true]) ∧ w' = w := by
  have c0 : w.cell? ⟨0, 0, none⟩ = some (.string ⟨#[101, 118, 101, 110]⟩) := hg.c 0 (by decide)
  have c1 : w.cell? ⟨0, 1, none⟩ = some (.string ⟨#[97, 119, 97, 121]⟩) := hg.c 1 (by decide)
  have c2 : w.cell? ⟨0, 2, none⟩ = some (.string ⟨#[122, 101, 114, 111]⟩) := hg.c 2 (by decide)
  have c3 : w.cell? ⟨0, 3, none⟩ = some (.string ⟨#[117, 112]⟩) := hg.c 3 (by decide)
  have c4 : w.cell? ⟨0, 4, none⟩ = some (.string ⟨#[100, 111, 119, 110]⟩) := hg.c 4 (by decide)
  have hlt := hg.lt
  have x0 := fun w => mnameAt_1 w
  have x1 := fun w => mnameAt_2 w
  have x2 := fun w => mnameAt_3 w
  have x3 := fun w => mnameAt_4 w
  have x4 := fun w => mnameAt_5 w
  clear hg
  go_enter Tryd.func5, Tryd.ntmps5
  go_wp2
  go_loop [7] (fun i => ∃ k : Nat, k ≤ 3 ∧ i = .int .i64 k) (fun i => 3 - (intOf i).toNat)
  case atStart => exact ⟨0, by decide, rfl⟩
  case round =>
    obtain ⟨k, hk, rfl⟩ := hrel
    have hk5 : k = 0 ∨ k = 1 ∨ k = 2 ∨ k = 3 := by omega
    clear c0 c1 c2 c3 c4 hlt
    rcases hk5 with rfl | rfl | rfl | rfl
    · go_wp2
      go_round
      case rel => exact ⟨1, by decide, rfl⟩
      case measure => decide
    · go_wp2
      go_round
      case rel => exact ⟨2, by decide, rfl⟩
      case measure => decide
    · go_wp2
      go_round
      case rel => exact ⟨3, by decide, rfl⟩
      case measure => decide
    · go_wp2
      exact bodyPost_ret (v := .tuple #[.int .i64 4, .bool true]) (by simp [results, Tryd.results5, go_sem]) rfl ⟨rfl, rfl⟩

set_option maxHeartbeats 1000000 in
theorem mbyName_5 (s : ByteArray) (e1 : ([101, 118, 101, 110] == s.toList) = false) (e2 : ([97, 119, 97, 121] == s.toList) = false) (e3 : ([122, 101, 114, 111] == s.toList) = false) (e4 : ([117, 112] == s.toList) = false) (e5 : ([100, 111, 119, 110] == s.toList) = true) (w : World) (hg : NamM w) : Calls Tryd.prog 5 #[.string s] w fun e w' => e = .returned (.tuple #[.int .i64 5, .bool true]) ∧ w' = w := by
  have c0 : w.cell? ⟨0, 0, none⟩ = some (.string ⟨#[101, 118, 101, 110]⟩) := hg.c 0 (by decide)
  have c1 : w.cell? ⟨0, 1, none⟩ = some (.string ⟨#[97, 119, 97, 121]⟩) := hg.c 1 (by decide)
  have c2 : w.cell? ⟨0, 2, none⟩ = some (.string ⟨#[122, 101, 114, 111]⟩) := hg.c 2 (by decide)
  have c3 : w.cell? ⟨0, 3, none⟩ = some (.string ⟨#[117, 112]⟩) := hg.c 3 (by decide)
  have c4 : w.cell? ⟨0, 4, none⟩ = some (.string ⟨#[100, 111, 119, 110]⟩) := hg.c 4 (by decide)
  have hlt := hg.lt
  have x0 := fun w => mnameAt_1 w
  have x1 := fun w => mnameAt_2 w
  have x2 := fun w => mnameAt_3 w
  have x3 := fun w => mnameAt_4 w
  have x4 := fun w => mnameAt_5 w
  clear hg
  go_enter Tryd.func5, Tryd.ntmps5
  go_wp2
  go_loop [7] (fun i => ∃ k : Nat, k ≤ 4 ∧ i = .int .i64 k) (fun i => 4 - (intOf i).toNat)
  case atStart => exact ⟨0, by decide, rfl⟩
  case round =>
    obtain ⟨k, hk, rfl⟩ := hrel
    have hk5 : k = 0 ∨ k = 1 ∨ k = 2 ∨ k = 3 ∨ k = 4 := by omega
    clear c0 c1 c2 c3 c4 hlt
    rcases hk5 with rfl | rfl | rfl | rfl | rfl
    · go_wp2
      go_round
      case rel => exact ⟨1, by decide, rfl⟩
      case measure => decide
    · go_wp2
      go_round
      case rel => exact ⟨2, by decide, rfl⟩
      case measure => decide
    · go_wp2
      go_round
      case rel => exact ⟨3, by decide, rfl⟩
      case measure => decide
    · go_wp2
      go_round
      case rel => exact ⟨4, by decide, rfl⟩
      case measure => decide
    · go_wp2
      exact bodyPost_ret (v := .tuple #[.int .i64 5, .bool true]) (by simp [results, Tryd.results5, go_sem]) rfl ⟨rfl, rfl⟩

set_option maxHeartbeats 1000000 in
theorem mbyName_6 (s : ByteArray) (e1 : ([101, 118, 101, 110] == s.toList) = false) (e2 : ([97, 119, 97, 121] == s.toList) = false) (e3 : ([122, 101, 114, 111] == s.toList) = false) (e4 : ([117, 112] == s.toList) = false) (e5 : ([100, 111, 119, 110] == s.toList) = false) (w : World) (hg : NamM w) : Calls Tryd.prog 5 #[.string s] w fun e w' => e = .returned (.tuple #[.int .i64 0, .bool false]) ∧ w' = w := by
  have c0 : w.cell? ⟨0, 0, none⟩ = some (.string ⟨#[101, 118, 101, 110]⟩) := hg.c 0 (by decide)
  have c1 : w.cell? ⟨0, 1, none⟩ = some (.string ⟨#[97, 119, 97, 121]⟩) := hg.c 1 (by decide)
  have c2 : w.cell? ⟨0, 2, none⟩ = some (.string ⟨#[122, 101, 114, 111]⟩) := hg.c 2 (by decide)
  have c3 : w.cell? ⟨0, 3, none⟩ = some (.string ⟨#[117, 112]⟩) := hg.c 3 (by decide)
  have c4 : w.cell? ⟨0, 4, none⟩ = some (.string ⟨#[100, 111, 119, 110]⟩) := hg.c 4 (by decide)
  have hlt := hg.lt
  have x0 := fun w => mnameAt_1 w
  have x1 := fun w => mnameAt_2 w
  have x2 := fun w => mnameAt_3 w
  have x3 := fun w => mnameAt_4 w
  have x4 := fun w => mnameAt_5 w
  clear hg
  go_enter Tryd.func5, Tryd.ntmps5
  go_wp2
  go_loop [7] (fun i => ∃ k : Nat, k ≤ 5 ∧ i = .int .i64 k) (fun i => 5 - (intOf i).toNat)
  case atStart => exact ⟨0, by decide, rfl⟩
  case round =>
    obtain ⟨k, hk, rfl⟩ := hrel
    have hk5 : k = 0 ∨ k = 1 ∨ k = 2 ∨ k = 3 ∨ k = 4 ∨ k = 5 := by omega
    clear c0 c1 c2 c3 c4 hlt
    rcases hk5 with rfl | rfl | rfl | rfl | rfl | rfl
    · go_wp2
      go_round
      case rel => exact ⟨1, by decide, rfl⟩
      case measure => decide
    · go_wp2
      go_round
      case rel => exact ⟨2, by decide, rfl⟩
      case measure => decide
    · go_wp2
      go_round
      case rel => exact ⟨3, by decide, rfl⟩
      case measure => decide
    · go_wp2
      go_round
      case rel => exact ⟨4, by decide, rfl⟩
      case measure => decide
    · go_wp2
      go_round
      case rel => exact ⟨5, by decide, rfl⟩
      case measure => decide
    · go_wp2
      exact bodyPost_ret (v := .tuple #[.int .i64 0, .bool false]) (by simp [results, Tryd.results5, go_sem]) rfl ⟨rfl, rfl⟩

end Go.Proofs.YtidfegilddlglabDoor

