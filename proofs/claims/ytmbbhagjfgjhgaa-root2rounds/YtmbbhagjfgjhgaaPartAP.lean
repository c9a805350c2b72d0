/- Contracts and laws: RtB, RtC, RtD, RdxH, RtE, RtF. -/
import Derived.Test.YtmbbhagjfgjhgaaPartAO
import Derived.WalkMore
/- Contracts: root2.search. -/
set_option linter.unusedVariables false
set_option linter.unusedSimpArgs false
set_option maxRecDepth 8000
namespace Go.Proofs.Ytmbbhagjfgjhgaa
open Go.RowKit Plain

theorem sumN2 (a b : Nat) : sumN [a, b] 2 = a + b := by
  show 0 + a + b = _
  omega
theorem dg2_lt {a b X : Nat} (h0 : 0 < X) (ha : a < X) (hb : b < X) (i : Nat) : dg [a, b] i < X := by
  match i with
  | 0 => exact ha
  | 1 => exact hb
  | i + 2 => exact h0
theorem R2St.other8 {r1 r2 x y b : Nat} {w W : World} (h : R2St r1 r2 x y w W) (h1 : r1 ≠ b) (h2 : r2 ≠ b) (hb : w.heap.size ≤ b) (f : Nat → Nat) : R2St r1 r2 x y w ((((((((W.setCell ⟨b, 0, none⟩ (.int .u64 (f 0 : Nat))).setCell ⟨b, 1, none⟩ (.int .u64 (f 1 : Nat))).setCell ⟨b, 2, none⟩ (.int .u64 (f 2 : Nat))).setCell ⟨b, 3, none⟩ (.int .u64 (f 3 : Nat))).setCell ⟨b, 4, none⟩ (.int .u64 (f 4 : Nat))).setCell ⟨b, 5, none⟩ (.int .u64 (f 5 : Nat))).setCell ⟨b, 6, none⟩ (.int .u64 (f 6 : Nat))).setCell ⟨b, 7, none⟩ (.int .u64 (f 7 : Nat))) :=
  ⟨lies_ne h.lx h1, fun i => by simpa [go_sem] using h.fx i, lies_ne h.ly h2, fun i => by simpa [go_sem] using h.fy i, below_set8 h.bel _ hb _ _ _ _ _ _ _ _, h.o1, h.o2⟩
theorem search_start (n : Nat) (w : World) (e1 e2 e3 e4 e5 : TypeId) :
    R2St (w.heap.size + 1) (w.heap.size + 2) 0 0 w (((((w.alloc (.cells #[.int .u64 (dgl (n) 0 : Nat), .int .u64 (dgl (n) 1 : Nat), .int .u64 (dgl (n) 2 : Nat), .int .u64 (dgl (n) 3 : Nat), .int .u64 (dgl (n) 4 : Nat), .int .u64 (dgl (n) 5 : Nat), .int .u64 (dgl (n) 6 : Nat), .int .u64 (dgl (n) 7 : Nat)] e1)).alloc (.cells #[.int .u64 0, .int .u64 0, .int .u64 0, .int .u64 0, .int .u64 0, .int .u64 0, .int .u64 0, .int .u64 0] e2)).alloc (.cells #[.int .u64 0, .int .u64 0, .int .u64 0, .int .u64 0, .int .u64 0, .int .u64 0, .int .u64 0, .int .u64 0] e3)).alloc (.cells #[.int .u64 0, .int .u64 0, .int .u64 0, .int .u64 0, .int .u64 0, .int .u64 0, .int .u64 0, .int .u64 0] e4)).alloc (.cells #[.int .u64 (dgl (n) 0 : Nat), .int .u64 (dgl (n) 1 : Nat), .int .u64 (dgl (n) 2 : Nat), .int .u64 (dgl (n) 3 : Nat), .int .u64 (dgl (n) 4 : Nat), .int .u64 (dgl (n) 5 : Nat), .int .u64 (dgl (n) 6 : Nat), .int .u64 (dgl (n) 7 : Nat)] e5)) ∧
    R2St (w.heap.size + 3) (w.heap.size + 4) 0 n w (((((w.alloc (.cells #[.int .u64 (dgl (n) 0 : Nat), .int .u64 (dgl (n) 1 : Nat), .int .u64 (dgl (n) 2 : Nat), .int .u64 (dgl (n) 3 : Nat), .int .u64 (dgl (n) 4 : Nat), .int .u64 (dgl (n) 5 : Nat), .int .u64 (dgl (n) 6 : Nat), .int .u64 (dgl (n) 7 : Nat)] e1)).alloc (.cells #[.int .u64 0, .int .u64 0, .int .u64 0, .int .u64 0, .int .u64 0, .int .u64 0, .int .u64 0, .int .u64 0] e2)).alloc (.cells #[.int .u64 0, .int .u64 0, .int .u64 0, .int .u64 0, .int .u64 0, .int .u64 0, .int .u64 0, .int .u64 0] e3)).alloc (.cells #[.int .u64 0, .int .u64 0, .int .u64 0, .int .u64 0, .int .u64 0, .int .u64 0, .int .u64 0, .int .u64 0] e4)).alloc (.cells #[.int .u64 (dgl (n) 0 : Nat), .int .u64 (dgl (n) 1 : Nat), .int .u64 (dgl (n) 2 : Nat), .int .u64 (dgl (n) 3 : Nat), .int .u64 (dgl (n) 4 : Nat), .int .u64 (dgl (n) 5 : Nat), .int .u64 (dgl (n) 6 : Nat), .int .u64 (dgl (n) 7 : Nat)] e5)) := by
  have h1 := r2_new w _ (below_allocs w (.cells #[.int .u64 (dgl (n) 0 : Nat), .int .u64 (dgl (n) 1 : Nat), .int .u64 (dgl (n) 2 : Nat), .int .u64 (dgl (n) 3 : Nat), .int .u64 (dgl (n) 4 : Nat), .int .u64 (dgl (n) 5 : Nat), .int .u64 (dgl (n) 6 : Nat), .int .u64 (dgl (n) 7 : Nat)] e1)) e2 e3
  have h2 := r2_put w _ 0 n h1.bel e4 e5
  rw [w8_zero] at h2
  rw [World.size_alloc] at h1
  rw [World.size_alloc, World.size_alloc, World.size_alloc] at h2
  exact ⟨(h1.below (below_allocs _ _)).below (below_allocs _ _), h2⟩

set_option maxHeartbeats 8000000 in
theorem search_any (fid K n S r0 : Nat) (g G : Nat → Nat) (w : World) (HRE : Hid (n - g S = r0)) (hn : n < QQ) (hK : K ≤ 128) (hS : S < 2 ^ K) (hg0 : g 0 = 0)
    (hle : ∀ p, p < K → (g (hiN S (p + 1) + 2 ^ p) ≤ n ↔ S / 2 ^ p % 2 = 1)) (hhi : ∀ c, g (hiN S c) ≤ n)
    (hsum : ∀ p, p < K → G p + g (hiN S (p + 1)) = g (hiN S (p + 1) + 2 ^ p)) (hG : ∀ p, p < K → G p < QQ)
    (hent : ∀ args w, (callFunc fid args).run Try.prog w = .ok (.enter fid args) w)
    (hcall : ∀ p, p < K → ∀ w, Calls Try.prog fid #[.agg #[.int .u64 (dgl (hiN S (p + 1)) 0 : Nat), .int .u64 (dgl (hiN S (p + 1)) 1 : Nat), .int .u64 (dgl (hiN S (p + 1)) 2 : Nat), .int .u64 (dgl (hiN S (p + 1)) 3 : Nat), .int .u64 (dgl (hiN S (p + 1)) 4 : Nat), .int .u64 (dgl (hiN S (p + 1)) 5 : Nat), .int .u64 (dgl (hiN S (p + 1)) 6 : Nat), .int .u64 (dgl (hiN S (p + 1)) 7 : Nat)], .int .i64 (p : Nat)] w fun e w' => e = .returned (.agg #[.int .u64 (dgl (G p) 0 : Nat), .int .u64 (dgl (G p) 1 : Nat), .int .u64 (dgl (G p) 2 : Nat), .int .u64 (dgl (G p) 3 : Nat), .int .u64 (dgl (G p) 4 : Nat), .int .u64 (dgl (G p) 5 : Nat), .int .u64 (dgl (G p) 6 : Nat), .int .u64 (dgl (G p) 7 : Nat)]) ∧ Below w.heap.size w w') :
    Calls Try.prog 56 #[.agg #[.int .u64 (dgl (n) 0 : Nat), .int .u64 (dgl (n) 1 : Nat), .int .u64 (dgl (n) 2 : Nat), .int .u64 (dgl (n) 3 : Nat), .int .u64 (dgl (n) 4 : Nat), .int .u64 (dgl (n) 5 : Nat), .int .u64 (dgl (n) 6 : Nat), .int .u64 (dgl (n) 7 : Nat)], .int .i64 (K : Nat), .func (.func fid) #[] #[]] w fun e w' => e = .returned (.tuple #[.agg #[.int .u64 (dgl (S) 0 : Nat), .int .u64 (dgl (S) 1 : Nat), .int .u64 (dgl (S) 2 : Nat), .int .u64 (dgl (S) 3 : Nat), .int .u64 (dgl (S) 4 : Nat), .int .u64 (dgl (S) 5 : Nat), .int .u64 (dgl (S) 6 : Nat), .int .u64 (dgl (S) 7 : Nat)], .agg #[.int .u64 (dgl (r0) 0 : Nat), .int .u64 (dgl (r0) 1 : Nat), .int .u64 (dgl (r0) 2 : Nat), .int .u64 (dgl (r0) 3 : Nat), .int .u64 (dgl (r0) 4 : Nat), .int .u64 (dgl (r0) 5 : Nat), .int .u64 (dgl (r0) 6 : Nat), .int .u64 (dgl (r0) 7 : Nat)]]) ∧ Below w.heap.size w w' := by
  have h128 : 2 ^ 128 < QQ := by decide +kernel
  have HHQ : Hid (∀ p, p < K → hiN S (p + 1) < QQ ∧ 2 ^ p < QQ ∧ hiN S (p + 1) + 2 ^ p < QQ) := by
    intro p hp
    have h1 := hiN_fit hS (show p + 1 ≤ K from hp)
    have h2 : 2 ^ K ≤ 2 ^ 128 := Nat.pow_le_pow_right (by decide) hK
    have h3 := Nat.lt_of_lt_of_le h1 h2
    have h4 := Nat.lt_trans h3 h128
    generalize 2 ^ p = y at *
    generalize hiN S (p + 1) = z at *
    clear h1 h2 h3 h128
    exact ⟨by omega, by omega, h4⟩
  have HPO : Hid (∀ p, p < K → ∀ w, Calls Try.prog 58 #[.int .i64 (p : Nat)] w fun e w' => e = .returned (.agg #[.int .u64 (dgl (2 ^ p) 0 : Nat), .int .u64 (dgl (2 ^ p) 1 : Nat), .int .u64 (dgl (2 ^ p) 2 : Nat), .int .u64 (dgl (2 ^ p) 3 : Nat), .int .u64 (dgl (2 ^ p) 4 : Nat), .int .u64 (dgl (2 ^ p) 5 : Nat), .int .u64 (dgl (2 ^ p) 6 : Nat), .int .u64 (dgl (2 ^ p) 7 : Nat)]) ∧ Below w.heap.size w w') := fun p hp w => power_lt p 512 (qq_pow 512 (by decide)) (by omega) _ rfl rfl w
  have HSM : Hid (∀ s P, s < QQ → P < QQ → ∀ v w, RdW w v [s, P] → Calls Try.prog 44 #[v] w fun e w' => e = .returned (.agg #[.int .u64 (dgl (s + P) 0 : Nat), .int .u64 (dgl (s + P) 1 : Nat), .int .u64 (dgl (s + P) 2 : Nat), .int .u64 (dgl (s + P) 3 : Nat), .int .u64 (dgl (s + P) 4 : Nat), .int .u64 (dgl (s + P) 5 : Nat), .int .u64 (dgl (s + P) 6 : Nat), .int .u64 (dgl (s + P) 7 : Nat)]) ∧ Below w.heap.size w w') := fun s P hs hP v w hv => by
    have h := prodSum_any [s, P] v w hv (fun i => dg2_lt (by omega) hs hP i)
    rw [show [s, P].length = 2 from rfl, sumN2] at h
    exact h
  have HLE := hide hle
  have HHI := hide hhi
  have HSUM := hide hsum
  have HG := hide hG
  have HCA := hide hcall
  have HN := hide hn
  have HS0 := hide (search_start n w 24 24 24 24 24)
  have HR0 : Hid (0 = hiN S K ∧ n = n - g (hiN S K)) := by
    unfold Hid
    rw [hiN_top hS, hg0]
    exact ⟨rfl, rfl⟩
  have hw0 : IntKind.i64.wrap ((K : Int) - 1) = (K : Int) - 1 := by rw [IntKind.wrap_i64]; omega
  clear hle hhi hsum hG hcall hn hg0 hS h128
  go_enter Try.func56, Try.ntmps56
  go_wp2
  go_step3
  go_wp2
  go_step3
  go_wp2
  go_loopw [10] (fun i wr => ∃ (c : Nat) (zi : Int) (s r : Nat), c ≤ K ∧ Hid (zi = (c : Int) - 1) ∧ i = .int .i64 zi ∧ Hid (s = hiN S c) ∧ Hid (r = n - g (hiN S c)) ∧ Hid (R2St (w.heap.size + 1) (w.heap.size + 2) 0 0 w wr ∧ R2St (w.heap.size + 3) (w.heap.size + 4) s r w wr))
    (fun i _ => (intOf i + 1).toNat)
  case atStart => exact ⟨K, _, 0, n, by omega, hide rfl, rfl, HR0.out.1, HR0.out.2, HS0⟩
  case round =>
    clear HS0 HR0 hw0
    obtain ⟨c, zi, s, r, hc, hzi, rfl, hs, hr, HS⟩ := hrel
    by_cases hz0 : 0 ≤ zi
    · obtain ⟨p, rfl⟩ : ∃ p : Nat, zi = (p : Int) := ⟨zi.toNat, by omega⟩
      obtain rfl : c = p + 1 := by have := hzi.out; omega
      have hp : p < K := hc
      clear hzi hc
      have HPC := hide (show w.heap.size + 4 < wr.heap.size from HS.out.2.ly.2)
      obtain ⟨P, hP⟩ : ∃ P, 2 ^ p = P := ⟨_, rfl⟩
      have HPW := hide (HPO.out p hp)
      have HGR := hide (HCA.out p hp)
      have hq := HHQ.out p hp
      have hle := HLE.out p hp
      have hhi := HHI.out (p + 1)
      have hsum := HSUM.out p hp
      have hgq := HG.out p hp
      rw [hP] at HPW hq hle hsum
      have hon : S / 2 ^ p % 2 = 1 → hiN S p = hiN S (p + 1) + P := fun h => hP ▸ hiN_on h
      have hoff : S / 2 ^ p % 2 = 0 → hiN S p = hiN S (p + 1) := hiN_off
      have hbc := bitN_cases S p
      rw [hP] at hon hoff hbc
      have hs' := hs.out
      have hr' := hr.out
      rw [← hs'] at HGR hq hle hhi hsum hr' hon hoff
      have HSU := hide (HSM.out s P hq.1 hq.2.1)
      have hrq : r < QQ := by rw [hr']; exact Nat.lt_of_le_of_lt (Nat.sub_le _ _) HN.out
      have HSUB := hide (fun w => wideSub_any r (G p) hrq hgq w)
      have HON : Hid (¬ r < G p → s + P = hiN S p ∧ subQ r (G p) = n - g (hiN S p)) := by
        intro h
        have h1 : g (s + P) ≤ n := by omega
        have h2 := hon (hle.1 h1)
        refine ⟨h2.symm, ?_⟩
        rw [h2, ← hsum]
        unfold subQ
        rw [subW_sub (by decide) 8 r (G p) hrq (by omega)]
        omega
      have HOFF : Hid (r < G p → s = hiN S p ∧ r = n - g (hiN S p)) := by
        intro h
        have h1 : ¬ g (s + P) ≤ n := by omega
        have h2 := hoff (by rcases hbc with h3 | h3; exact h3; exact absurd (hle.2 h3) h1)
        exact ⟨h2.symm, by rw [h2]; exact hr'⟩
      clear hP hq hle hhi hsum hgq hon hoff hbc hs' hr' hrq hs hr
      generalize subQ r (G p) = x at *
      generalize G p = gp at *
      by_cases hlt : r < gp
      · have hlo : decide (r < gp) = true := decide_eq_true hlt
        rw [hlo] at HSUB
        have HLF := hide (HOFF.out hlt)
        clear hlo HON HOFF hlt
        go_upto_region 6 with fail
        refine wp_region_storeK 12 [10] [21, 22, 23, 24, 25, 26, 20, 27, 28, 11, 12] (fun bs => [(21, .val (.agg #[.int .u64 (dgl (r) 0 : Nat), .int .u64 (dgl (r) 1 : Nat), .int .u64 (dgl (r) 2 : Nat), .int .u64 (dgl (r) 3 : Nat), .int .u64 (dgl (r) 4 : Nat), .int .u64 (dgl (r) 5 : Nat), .int .u64 (dgl (r) 6 : Nat), .int .u64 (dgl (r) 7 : Nat)])), (22, .val (.func (.func fid) #[] #[])), (23, .val (.agg #[.int .u64 (dgl (s) 0 : Nat), .int .u64 (dgl (s) 1 : Nat), .int .u64 (dgl (s) 2 : Nat), .int .u64 (dgl (s) 3 : Nat), .int .u64 (dgl (s) 4 : Nat), .int .u64 (dgl (s) 5 : Nat), .int .u64 (dgl (s) 6 : Nat), .int .u64 (dgl (s) 7 : Nat)])), (24, .val (.int .i64 (p : Nat))), (25, .val (.agg #[.int .u64 (dgl (gp) 0 : Nat), .int .u64 (dgl (gp) 1 : Nat), .int .u64 (dgl (gp) 2 : Nat), .int .u64 (dgl (gp) 3 : Nat), .int .u64 (dgl (gp) 4 : Nat), .int .u64 (dgl (gp) 5 : Nat), .int .u64 (dgl (gp) 6 : Nat), .int .u64 (dgl (gp) 7 : Nat)])), (26, .val (.tuple #[.agg #[.int .u64 (dgl (x) 0 : Nat), .int .u64 (dgl (x) 1 : Nat), .int .u64 (dgl (x) 2 : Nat), .int .u64 (dgl (x) 3 : Nat), .int .u64 (dgl (x) 4 : Nat), .int .u64 (dgl (x) 5 : Nat), .int .u64 (dgl (x) 6 : Nat), .int .u64 (dgl (x) 7 : Nat)], .bool true])), (20, .val (.tuple #[.agg #[.int .u64 (dgl (x) 0 : Nat), .int .u64 (dgl (x) 1 : Nat), .int .u64 (dgl (x) 2 : Nat), .int .u64 (dgl (x) 3 : Nat), .int .u64 (dgl (x) 4 : Nat), .int .u64 (dgl (x) 5 : Nat), .int .u64 (dgl (x) 6 : Nat), .int .u64 (dgl (x) 7 : Nat)], .bool true])), (27, .val (.agg #[.int .u64 (dgl (x) 0 : Nat), .int .u64 (dgl (x) 1 : Nat), .int .u64 (dgl (x) 2 : Nat), .int .u64 (dgl (x) 3 : Nat), .int .u64 (dgl (x) 4 : Nat), .int .u64 (dgl (x) 5 : Nat), .int .u64 (dgl (x) 6 : Nat), .int .u64 (dgl (x) 7 : Nat)])), (28, .val (.bool true)), (11, bif bs.headD false then SlotIs.box wr.heap.size (dgl x) else SlotIs.box wr.heap.size (fun _ => 0)), (12, .val (.bool true))])
          (fun _ W => (R2St (w.heap.size + 1) (w.heap.size + 2) 0 0 w W ∧ R2St (w.heap.size + 3) (w.heap.size + 4) s r w W) ∧ Below wr.heap.size wr W) (fun bs => rfl) mixedOk (by kernel_rfl) (by kernel_rfl) (by kernel_rfl) (⟨⟨HS.out.1.below (Below.refl _ _).drew, HS.out.2.below (Below.refl _ _).drew⟩, (Below.refl _ _).drew⟩) (fun bs W W' h hb => ⟨⟨h.1.1.below hb, h.1.2.below hb⟩, h.2.trans (hb.mono h.2.size)⟩) ?_ ?_
        · refine kSt rfl (fun φ hφ => gStep_run rfl ?_) ?_
          · intro ρ W hC hc hf hL
            have e9 : ρ (.tmp 9) = .pointer (some ⟨w.heap.size + 4, 0, none⟩) := hL 9 (by decide +kernel)
            have hl := hC.1.2.ly.1
            simp [go_sem, hc, hf, e9, hl]
            exact ⟨Below.refl _ _, rfl⟩
          refine kSt rfl (fun φ hφ => gStep_run rfl (gRun_move 2 22 (.inl rfl) rfl (by decide +kernel) (fun v w h => h))) ?_
          refine kSt rfl (fun φ hφ => gStep_run rfl ?_) ?_
          · intro ρ W hC hc hf hL
            have e8 : ρ (.tmp 8) = .pointer (some ⟨w.heap.size + 3, 0, none⟩) := hL 8 (by decide +kernel)
            have hl := hC.1.2.lx.1
            simp [go_sem, hc, hf, e8, hl]
            exact ⟨Below.refl _ _, rfl⟩
          refine kSt rfl (fun φ hφ => gStep_run rfl (gRun_move 10 24 (.inl rfl) rfl (by decide +kernel) (fun v w h => h))) ?_
          refine kSt rfl (fun φ hφ => gStep_run rfl ?_) ?_
          · intro ρ W hC hc hf hL
            have e22 : ρ (.tmp 22) = .func (.func fid) #[] #[] := hL 22 (by decide +kernel)
            have e23 : ρ (.tmp 23) = .agg #[.int .u64 (dgl (s) 0 : Nat), .int .u64 (dgl (s) 1 : Nat), .int .u64 (dgl (s) 2 : Nat), .int .u64 (dgl (s) 3 : Nat), .int .u64 (dgl (s) 4 : Nat), .int .u64 (dgl (s) 5 : Nat), .int .u64 (dgl (s) 6 : Nat), .int .u64 (dgl (s) 7 : Nat)] := hL 23 (by decide +kernel)
            have e24 : ρ (.tmp 24) = .int .i64 (p : Nat) := hL 24 (by decide +kernel)
            simp [go_sem, hc, hf, e22, e23, e24, hent]
            refine (HGR.out W).mono ?_
            rintro e w' ⟨rfl, hb⟩
            exact ⟨_, rfl, by first | exact hb | (subst hb; exact Below.refl _ _), rfl⟩
          refine kSt rfl (fun φ hφ => gStep_run rfl ?_) ?_
          · intro ρ W hC hc hf hL
            have e21 : ρ (.tmp 21) = .agg #[.int .u64 (dgl (r) 0 : Nat), .int .u64 (dgl (r) 1 : Nat), .int .u64 (dgl (r) 2 : Nat), .int .u64 (dgl (r) 3 : Nat), .int .u64 (dgl (r) 4 : Nat), .int .u64 (dgl (r) 5 : Nat), .int .u64 (dgl (r) 6 : Nat), .int .u64 (dgl (r) 7 : Nat)] := hL 21 (by decide +kernel)
            have e25 : ρ (.tmp 25) = .agg #[.int .u64 (dgl (gp) 0 : Nat), .int .u64 (dgl (gp) 1 : Nat), .int .u64 (dgl (gp) 2 : Nat), .int .u64 (dgl (gp) 3 : Nat), .int .u64 (dgl (gp) 4 : Nat), .int .u64 (dgl (gp) 5 : Nat), .int .u64 (dgl (gp) 6 : Nat), .int .u64 (dgl (gp) 7 : Nat)] := hL 25 (by decide +kernel)
            simp [go_sem, hc, hf, e21, e25]
            refine (HSUB.out W).mono ?_
            rintro e w' ⟨rfl, hb⟩
            exact ⟨_, rfl, by first | exact hb | (subst hb; exact Below.refl _ _), rfl⟩
          refine kSt rfl (fun φ hφ => gStep_run rfl (gRun_move 26 20 (.inl rfl) rfl (by decide +kernel) (fun v w h => h))) ?_
          refine kSt rfl (fun φ hφ => gStep_run rfl ?_) ?_
          · intro ρ W hC hc hf hL
            have e20 : ρ (.tmp 20) = .tuple #[.agg #[.int .u64 (dgl (x) 0 : Nat), .int .u64 (dgl (x) 1 : Nat), .int .u64 (dgl (x) 2 : Nat), .int .u64 (dgl (x) 3 : Nat), .int .u64 (dgl (x) 4 : Nat), .int .u64 (dgl (x) 5 : Nat), .int .u64 (dgl (x) 6 : Nat), .int .u64 (dgl (x) 7 : Nat)], .bool true] := hL 20 (by decide +kernel)
            simp [go_sem, hc, hf, e20]
            exact ⟨Below.refl _ _, rfl⟩
          refine kSt rfl (fun φ hφ => gStep_run rfl ?_) ?_
          · intro ρ W hC hc hf hL
            have e20 : ρ (.tmp 20) = .tuple #[.agg #[.int .u64 (dgl (x) 0 : Nat), .int .u64 (dgl (x) 1 : Nat), .int .u64 (dgl (x) 2 : Nat), .int .u64 (dgl (x) 3 : Nat), .int .u64 (dgl (x) 4 : Nat), .int .u64 (dgl (x) 5 : Nat), .int .u64 (dgl (x) 6 : Nat), .int .u64 (dgl (x) 7 : Nat)], .bool true] := hL 20 (by decide +kernel)
            simp [go_sem, hc, hf, e20]
            exact ⟨Below.refl _ _, rfl⟩
          refine kSt rfl (fun φ hφ => gStep_run rfl ?_) ?_
          · intro ρ W hC hc hf hL
            have hφ0 : φ 10 = false := hφ 10 (by simp) (by kernel_rfl)
            simp [go_sem, hc, hf]
            refine ⟨below_allocs _ _, ?_⟩
            show (bif φ 10 then SlotIs.box (wr.heap.size) (dgl x) else SlotIs.box (wr.heap.size) (fun _ => 0)).R _ _
            rw [hφ0]
            exact ⟨_, rfl, hC.2.size, liesF_new _ (fun _ => 0) _, fun i => by simp [go_sem]⟩
          refine kStS rfl ⟨rfl, rfl, ?_⟩ ?_
          · intro φ ρ W hφ hC hc hL
            have b11 := hL 11 (by decide +kernel)
            have e27 : ρ (.tmp 27) = .agg #[.int .u64 (dgl (x) 0 : Nat), .int .u64 (dgl (x) 1 : Nat), .int .u64 (dgl (x) 2 : Nat), .int .u64 (dgl (x) 3 : Nat), .int .u64 (dgl (x) 4 : Nat), .int .u64 (dgl (x) 5 : Nat), .int .u64 (dgl (x) 6 : Nat), .int .u64 (dgl (x) 7 : Nat)] := hL 27 (by decide +kernel)
            have bx : (bif φ 10 then SlotIs.box (wr.heap.size) (dgl x) else SlotIs.box (wr.heap.size) (fun _ => 0)).R (ρ (.tmp 11)) W := hL 11 (by decide +kernel)
            rw [hφ] at bx
            obtain ⟨px, ex, qx, lx, zx⟩ := bx
            have hz := lx.1
            have hzl := lx.2
            refine gUpon_of ((((((((W.setCell ⟨px, 0, none⟩ (.int .u64 (dgl x 0 : Nat))).setCell ⟨px, 1, none⟩ (.int .u64 (dgl x 1 : Nat))).setCell ⟨px, 2, none⟩ (.int .u64 (dgl x 2 : Nat))).setCell ⟨px, 3, none⟩ (.int .u64 (dgl x 3 : Nat))).setCell ⟨px, 4, none⟩ (.int .u64 (dgl x 4 : Nat))).setCell ⟨px, 5, none⟩ (.int .u64 (dgl x 5 : Nat))).setCell ⟨px, 6, none⟩ (.int .u64 (dgl x 6 : Nat))).setCell ⟨px, 7, none⟩ (.int .u64 (dgl x 7 : Nat))) ?_ (fun _ => ?_)
            · simp [go_sem, hc, e27, ex, hz, hzl, zx, gUpon]
            have hs8 := below_set8 (Below.refl wr.heap.size W) px qx (.int .u64 (dgl x 0 : Nat)) (.int .u64 (dgl x 1 : Nat)) (.int .u64 (dgl x 2 : Nat)) (.int .u64 (dgl x 3 : Nat)) (.int .u64 (dgl x 4 : Nat)) (.int .u64 (dgl x 5 : Nat)) (.int .u64 (dgl x 6 : Nat)) (.int .u64 (dgl x 7 : Nat))
            have hpc := HPC.out
            refine ⟨⟨⟨hC.1.1.under hs8 (by omega), hC.1.2.under hs8 (by omega)⟩, hC.2.trans hs8⟩, fun t => ?_⟩
            refine (tbl_imp rfl (fun _ => val_imp) (tbl_imp rfl (fun _ => val_imp) (tbl_imp rfl (fun _ => val_imp) (tbl_imp rfl (fun _ => val_imp) (tbl_imp rfl (fun _ => val_imp) (tbl_imp rfl (fun _ => val_imp) (tbl_imp rfl (fun _ => val_imp) (tbl_imp rfl (fun _ => val_imp) (tbl_imp rfl (fun _ => val_imp) (tbl_imp rfl (fun ht h => ?_) (tbl_imp rfl (fun _ => val_imp) tbl_nil_imp)))))))))))
            · subst ht
              show (bif (φ 10 || true) then SlotIs.box (wr.heap.size) (dgl x) else SlotIs.box (wr.heap.size) (fun _ => 0)).R _ _
              rw [Bool.or_true]
              exact ⟨px, ex, qx, set8_same W px (dgl x) (fun _ => 0) lx, fun i => by simpa [go_sem] using zx i⟩
          refine kSt rfl (fun φ hφ => gStep_run rfl (gRun_move 28 12 (.inr rfl) rfl (by decide +kernel) (fun v w h => h))) ?_
          exact kSt0
        · intro W hC
          refine gFi 21 rfl ?_
          rintro _ rfl
          refine gFi 22 rfl ?_
          rintro _ rfl
          refine gFi 23 rfl ?_
          rintro _ rfl
          refine gFi 24 rfl ?_
          rintro _ rfl
          refine gFi 25 rfl ?_
          rintro _ rfl
          refine gFi 26 rfl ?_
          rintro _ rfl
          refine gFi 20 rfl ?_
          rintro _ rfl
          refine gFi 27 rfl ?_
          rintro _ rfl
          refine gFi 28 rfl ?_
          rintro _ rfl
          refine gFi 11 rfl ?_
          rintro _ ⟨p11, rfl, q11, l11, z11⟩
          refine gFiN rfl ?_
          refine gFi 12 rfl ?_
          rintro _ rfl
          refine gFi0 ?_
          simp only [List.drop_succ_cons, List.drop_zero, Act.put, List.setIfInBounds_toArray, List.set_cons_succ, List.set_cons_zero]
          replace HS := hide hC.1
          have HL := hide l11
          have HP11 := hide (Nat.le_trans HPC.out q11)
          clear hC l11 z11 q11
          clear HL
          have hw : IntKind.i64.wrap ((p : Int) - 1) = (p : Int) - 1 := by rw [IntKind.wrap_i64]; omega
          go_wp2
          go_roundw
          case rel => exact ⟨p, (p : Int) - 1, s, r, by omega, hide rfl, rfl, HLF.out.1, HLF.out.2, HS⟩
          case measure => first | (simp [intOf]; done) | (simp [intOf]; omega)
      · have hlo : decide (r < gp) = false := decide_eq_false hlt
        rw [hlo] at HSUB
        have HLF := hide (HON.out hlt)
        clear hlo HON HOFF hlt
        go_upto_region 6 with fail
        refine wp_region_storeK 12 [10] [21, 22, 23, 24, 25, 26, 20, 27, 28, 11, 12] (fun bs => [(21, .val (.agg #[.int .u64 (dgl (r) 0 : Nat), .int .u64 (dgl (r) 1 : Nat), .int .u64 (dgl (r) 2 : Nat), .int .u64 (dgl (r) 3 : Nat), .int .u64 (dgl (r) 4 : Nat), .int .u64 (dgl (r) 5 : Nat), .int .u64 (dgl (r) 6 : Nat), .int .u64 (dgl (r) 7 : Nat)])), (22, .val (.func (.func fid) #[] #[])), (23, .val (.agg #[.int .u64 (dgl (s) 0 : Nat), .int .u64 (dgl (s) 1 : Nat), .int .u64 (dgl (s) 2 : Nat), .int .u64 (dgl (s) 3 : Nat), .int .u64 (dgl (s) 4 : Nat), .int .u64 (dgl (s) 5 : Nat), .int .u64 (dgl (s) 6 : Nat), .int .u64 (dgl (s) 7 : Nat)])), (24, .val (.int .i64 (p : Nat))), (25, .val (.agg #[.int .u64 (dgl (gp) 0 : Nat), .int .u64 (dgl (gp) 1 : Nat), .int .u64 (dgl (gp) 2 : Nat), .int .u64 (dgl (gp) 3 : Nat), .int .u64 (dgl (gp) 4 : Nat), .int .u64 (dgl (gp) 5 : Nat), .int .u64 (dgl (gp) 6 : Nat), .int .u64 (dgl (gp) 7 : Nat)])), (26, .val (.tuple #[.agg #[.int .u64 (dgl (x) 0 : Nat), .int .u64 (dgl (x) 1 : Nat), .int .u64 (dgl (x) 2 : Nat), .int .u64 (dgl (x) 3 : Nat), .int .u64 (dgl (x) 4 : Nat), .int .u64 (dgl (x) 5 : Nat), .int .u64 (dgl (x) 6 : Nat), .int .u64 (dgl (x) 7 : Nat)], .bool false])), (20, .val (.tuple #[.agg #[.int .u64 (dgl (x) 0 : Nat), .int .u64 (dgl (x) 1 : Nat), .int .u64 (dgl (x) 2 : Nat), .int .u64 (dgl (x) 3 : Nat), .int .u64 (dgl (x) 4 : Nat), .int .u64 (dgl (x) 5 : Nat), .int .u64 (dgl (x) 6 : Nat), .int .u64 (dgl (x) 7 : Nat)], .bool false])), (27, .val (.agg #[.int .u64 (dgl (x) 0 : Nat), .int .u64 (dgl (x) 1 : Nat), .int .u64 (dgl (x) 2 : Nat), .int .u64 (dgl (x) 3 : Nat), .int .u64 (dgl (x) 4 : Nat), .int .u64 (dgl (x) 5 : Nat), .int .u64 (dgl (x) 6 : Nat), .int .u64 (dgl (x) 7 : Nat)])), (28, .val (.bool false)), (11, bif bs.headD false then SlotIs.box wr.heap.size (dgl x) else SlotIs.box wr.heap.size (fun _ => 0)), (12, .val (.bool false))])
          (fun _ W => (R2St (w.heap.size + 1) (w.heap.size + 2) 0 0 w W ∧ R2St (w.heap.size + 3) (w.heap.size + 4) s r w W) ∧ Below wr.heap.size wr W) (fun bs => rfl) mixedOk (by kernel_rfl) (by kernel_rfl) (by kernel_rfl) (⟨⟨HS.out.1.below (Below.refl _ _).drew, HS.out.2.below (Below.refl _ _).drew⟩, (Below.refl _ _).drew⟩) (fun bs W W' h hb => ⟨⟨h.1.1.below hb, h.1.2.below hb⟩, h.2.trans (hb.mono h.2.size)⟩) ?_ ?_
        · refine kSt rfl (fun φ hφ => gStep_run rfl ?_) ?_
          · intro ρ W hC hc hf hL
            have e9 : ρ (.tmp 9) = .pointer (some ⟨w.heap.size + 4, 0, none⟩) := hL 9 (by decide +kernel)
            have hl := hC.1.2.ly.1
            simp [go_sem, hc, hf, e9, hl]
            exact ⟨Below.refl _ _, rfl⟩
          refine kSt rfl (fun φ hφ => gStep_run rfl (gRun_move 2 22 (.inl rfl) rfl (by decide +kernel) (fun v w h => h))) ?_
          refine kSt rfl (fun φ hφ => gStep_run rfl ?_) ?_
          · intro ρ W hC hc hf hL
            have e8 : ρ (.tmp 8) = .pointer (some ⟨w.heap.size + 3, 0, none⟩) := hL 8 (by decide +kernel)
            have hl := hC.1.2.lx.1
            simp [go_sem, hc, hf, e8, hl]
            exact ⟨Below.refl _ _, rfl⟩
          refine kSt rfl (fun φ hφ => gStep_run rfl (gRun_move 10 24 (.inl rfl) rfl (by decide +kernel) (fun v w h => h))) ?_
          refine kSt rfl (fun φ hφ => gStep_run rfl ?_) ?_
          · intro ρ W hC hc hf hL
            have e22 : ρ (.tmp 22) = .func (.func fid) #[] #[] := hL 22 (by decide +kernel)
            have e23 : ρ (.tmp 23) = .agg #[.int .u64 (dgl (s) 0 : Nat), .int .u64 (dgl (s) 1 : Nat), .int .u64 (dgl (s) 2 : Nat), .int .u64 (dgl (s) 3 : Nat), .int .u64 (dgl (s) 4 : Nat), .int .u64 (dgl (s) 5 : Nat), .int .u64 (dgl (s) 6 : Nat), .int .u64 (dgl (s) 7 : Nat)] := hL 23 (by decide +kernel)
            have e24 : ρ (.tmp 24) = .int .i64 (p : Nat) := hL 24 (by decide +kernel)
            simp [go_sem, hc, hf, e22, e23, e24, hent]
            refine (HGR.out W).mono ?_
            rintro e w' ⟨rfl, hb⟩
            exact ⟨_, rfl, by first | exact hb | (subst hb; exact Below.refl _ _), rfl⟩
          refine kSt rfl (fun φ hφ => gStep_run rfl ?_) ?_
          · intro ρ W hC hc hf hL
            have e21 : ρ (.tmp 21) = .agg #[.int .u64 (dgl (r) 0 : Nat), .int .u64 (dgl (r) 1 : Nat), .int .u64 (dgl (r) 2 : Nat), .int .u64 (dgl (r) 3 : Nat), .int .u64 (dgl (r) 4 : Nat), .int .u64 (dgl (r) 5 : Nat), .int .u64 (dgl (r) 6 : Nat), .int .u64 (dgl (r) 7 : Nat)] := hL 21 (by decide +kernel)
            have e25 : ρ (.tmp 25) = .agg #[.int .u64 (dgl (gp) 0 : Nat), .int .u64 (dgl (gp) 1 : Nat), .int .u64 (dgl (gp) 2 : Nat), .int .u64 (dgl (gp) 3 : Nat), .int .u64 (dgl (gp) 4 : Nat), .int .u64 (dgl (gp) 5 : Nat), .int .u64 (dgl (gp) 6 : Nat), .int .u64 (dgl (gp) 7 : Nat)] := hL 25 (by decide +kernel)
            simp [go_sem, hc, hf, e21, e25]
            refine (HSUB.out W).mono ?_
            rintro e w' ⟨rfl, hb⟩
            exact ⟨_, rfl, by first | exact hb | (subst hb; exact Below.refl _ _), rfl⟩
          refine kSt rfl (fun φ hφ => gStep_run rfl (gRun_move 26 20 (.inl rfl) rfl (by decide +kernel) (fun v w h => h))) ?_
          refine kSt rfl (fun φ hφ => gStep_run rfl ?_) ?_
          · intro ρ W hC hc hf hL
            have e20 : ρ (.tmp 20) = .tuple #[.agg #[.int .u64 (dgl (x) 0 : Nat), .int .u64 (dgl (x) 1 : Nat), .int .u64 (dgl (x) 2 : Nat), .int .u64 (dgl (x) 3 : Nat), .int .u64 (dgl (x) 4 : Nat), .int .u64 (dgl (x) 5 : Nat), .int .u64 (dgl (x) 6 : Nat), .int .u64 (dgl (x) 7 : Nat)], .bool false] := hL 20 (by decide +kernel)
            simp [go_sem, hc, hf, e20]
            exact ⟨Below.refl _ _, rfl⟩
          refine kSt rfl (fun φ hφ => gStep_run rfl ?_) ?_
          · intro ρ W hC hc hf hL
            have e20 : ρ (.tmp 20) = .tuple #[.agg #[.int .u64 (dgl (x) 0 : Nat), .int .u64 (dgl (x) 1 : Nat), .int .u64 (dgl (x) 2 : Nat), .int .u64 (dgl (x) 3 : Nat), .int .u64 (dgl (x) 4 : Nat), .int .u64 (dgl (x) 5 : Nat), .int .u64 (dgl (x) 6 : Nat), .int .u64 (dgl (x) 7 : Nat)], .bool false] := hL 20 (by decide +kernel)
            simp [go_sem, hc, hf, e20]
            exact ⟨Below.refl _ _, rfl⟩
          refine kSt rfl (fun φ hφ => gStep_run rfl ?_) ?_
          · intro ρ W hC hc hf hL
            have hφ0 : φ 10 = false := hφ 10 (by simp) (by kernel_rfl)
            simp [go_sem, hc, hf]
            refine ⟨below_allocs _ _, ?_⟩
            show (bif φ 10 then SlotIs.box (wr.heap.size) (dgl x) else SlotIs.box (wr.heap.size) (fun _ => 0)).R _ _
            rw [hφ0]
            exact ⟨_, rfl, hC.2.size, liesF_new _ (fun _ => 0) _, fun i => by simp [go_sem]⟩
          refine kStS rfl ⟨rfl, rfl, ?_⟩ ?_
          · intro φ ρ W hφ hC hc hL
            have b11 := hL 11 (by decide +kernel)
            have e27 : ρ (.tmp 27) = .agg #[.int .u64 (dgl (x) 0 : Nat), .int .u64 (dgl (x) 1 : Nat), .int .u64 (dgl (x) 2 : Nat), .int .u64 (dgl (x) 3 : Nat), .int .u64 (dgl (x) 4 : Nat), .int .u64 (dgl (x) 5 : Nat), .int .u64 (dgl (x) 6 : Nat), .int .u64 (dgl (x) 7 : Nat)] := hL 27 (by decide +kernel)
            have bx : (bif φ 10 then SlotIs.box (wr.heap.size) (dgl x) else SlotIs.box (wr.heap.size) (fun _ => 0)).R (ρ (.tmp 11)) W := hL 11 (by decide +kernel)
            rw [hφ] at bx
            obtain ⟨px, ex, qx, lx, zx⟩ := bx
            have hz := lx.1
            have hzl := lx.2
            refine gUpon_of ((((((((W.setCell ⟨px, 0, none⟩ (.int .u64 (dgl x 0 : Nat))).setCell ⟨px, 1, none⟩ (.int .u64 (dgl x 1 : Nat))).setCell ⟨px, 2, none⟩ (.int .u64 (dgl x 2 : Nat))).setCell ⟨px, 3, none⟩ (.int .u64 (dgl x 3 : Nat))).setCell ⟨px, 4, none⟩ (.int .u64 (dgl x 4 : Nat))).setCell ⟨px, 5, none⟩ (.int .u64 (dgl x 5 : Nat))).setCell ⟨px, 6, none⟩ (.int .u64 (dgl x 6 : Nat))).setCell ⟨px, 7, none⟩ (.int .u64 (dgl x 7 : Nat))) ?_ (fun _ => ?_)
            · simp [go_sem, hc, e27, ex, hz, hzl, zx, gUpon]
            have hs8 := below_set8 (Below.refl wr.heap.size W) px qx (.int .u64 (dgl x 0 : Nat)) (.int .u64 (dgl x 1 : Nat)) (.int .u64 (dgl x 2 : Nat)) (.int .u64 (dgl x 3 : Nat)) (.int .u64 (dgl x 4 : Nat)) (.int .u64 (dgl x 5 : Nat)) (.int .u64 (dgl x 6 : Nat)) (.int .u64 (dgl x 7 : Nat))
            have hpc := HPC.out
            refine ⟨⟨⟨hC.1.1.under hs8 (by omega), hC.1.2.under hs8 (by omega)⟩, hC.2.trans hs8⟩, fun t => ?_⟩
            refine (tbl_imp rfl (fun _ => val_imp) (tbl_imp rfl (fun _ => val_imp) (tbl_imp rfl (fun _ => val_imp) (tbl_imp rfl (fun _ => val_imp) (tbl_imp rfl (fun _ => val_imp) (tbl_imp rfl (fun _ => val_imp) (tbl_imp rfl (fun _ => val_imp) (tbl_imp rfl (fun _ => val_imp) (tbl_imp rfl (fun _ => val_imp) (tbl_imp rfl (fun ht h => ?_) (tbl_imp rfl (fun _ => val_imp) tbl_nil_imp)))))))))))
            · subst ht
              show (bif (φ 10 || true) then SlotIs.box (wr.heap.size) (dgl x) else SlotIs.box (wr.heap.size) (fun _ => 0)).R _ _
              rw [Bool.or_true]
              exact ⟨px, ex, qx, set8_same W px (dgl x) (fun _ => 0) lx, fun i => by simpa [go_sem] using zx i⟩
          refine kSt rfl (fun φ hφ => gStep_run rfl (gRun_move 28 12 (.inr rfl) rfl (by decide +kernel) (fun v w h => h))) ?_
          exact kSt0
        · intro W hC
          refine gFi 21 rfl ?_
          rintro _ rfl
          refine gFi 22 rfl ?_
          rintro _ rfl
          refine gFi 23 rfl ?_
          rintro _ rfl
          refine gFi 24 rfl ?_
          rintro _ rfl
          refine gFi 25 rfl ?_
          rintro _ rfl
          refine gFi 26 rfl ?_
          rintro _ rfl
          refine gFi 20 rfl ?_
          rintro _ rfl
          refine gFi 27 rfl ?_
          rintro _ rfl
          refine gFi 28 rfl ?_
          rintro _ rfl
          refine gFi 11 rfl ?_
          rintro _ ⟨p11, rfl, q11, l11, z11⟩
          refine gFiN rfl ?_
          refine gFi 12 rfl ?_
          rintro _ rfl
          refine gFi0 ?_
          simp only [List.drop_succ_cons, List.drop_zero, Act.put, List.setIfInBounds_toArray, List.set_cons_succ, List.set_cons_zero]
          replace HS := hide hC.1
          have HL := hide l11
          have HP11 := hide (Nat.le_trans HPC.out q11)
          clear hC l11 z11 q11
          go_upto_region 8 with fail
          refine wp_gen (fun W => (R2St (w.heap.size + 1) (w.heap.size + 2) 0 0 w W ∧ R2St (w.heap.size + 3) (w.heap.size + 4) s r w W) ∧ LiesF W p11 (dgl x)) ⟨HS.out, HL.out⟩ ?_
          clear HS HL
          rintro W8 h8
          have HS := hide h8.1
          have HL := hide h8.2
          clear h8
          refine wp_region_storeK 7 [6] [30, 31, 32, 33, 34, 35] (fun bs => [(30, .val (.agg #[.int .u64 (dgl (s) 0 : Nat), .int .u64 (dgl (s) 1 : Nat), .int .u64 (dgl (s) 2 : Nat), .int .u64 (dgl (s) 3 : Nat), .int .u64 (dgl (s) 4 : Nat), .int .u64 (dgl (s) 5 : Nat), .int .u64 (dgl (s) 6 : Nat), .int .u64 (dgl (s) 7 : Nat)])), (31, .val (.int .i64 (p : Nat))), (32, .val (.agg #[.int .u64 (dgl (P) 0 : Nat), .int .u64 (dgl (P) 1 : Nat), .int .u64 (dgl (P) 2 : Nat), .int .u64 (dgl (P) 3 : Nat), .int .u64 (dgl (P) 4 : Nat), .int .u64 (dgl (P) 5 : Nat), .int .u64 (dgl (P) 6 : Nat), .int .u64 (dgl (P) 7 : Nat)])), (33, bif bs.headD false then SlotIs.any  else SlotIs.wides w.heap.size [s, P]), (34, .val (.agg #[.int .u64 (dgl (s + P) 0 : Nat), .int .u64 (dgl (s + P) 1 : Nat), .int .u64 (dgl (s + P) 2 : Nat), .int .u64 (dgl (s + P) 3 : Nat), .int .u64 (dgl (s + P) 4 : Nat), .int .u64 (dgl (s + P) 5 : Nat), .int .u64 (dgl (s + P) 6 : Nat), .int .u64 (dgl (s + P) 7 : Nat)])), (35, .val (.agg #[.int .u64 (dgl (x) 0 : Nat), .int .u64 (dgl (x) 1 : Nat), .int .u64 (dgl (x) 2 : Nat), .int .u64 (dgl (x) 3 : Nat), .int .u64 (dgl (x) 4 : Nat), .int .u64 (dgl (x) 5 : Nat), .int .u64 (dgl (x) 6 : Nat), .int .u64 (dgl (x) 7 : Nat)]))])
            (fun bs W => (∀ c, bs.headD false = c → R2St (w.heap.size + 3) (w.heap.size + 4) (bif c then s + P else s) r w W) ∧ R2St (w.heap.size + 1) (w.heap.size + 2) 0 0 w W ∧ LiesF W p11 (dgl x)) (fun bs => rfl) mixedOk (by kernel_rfl) (by kernel_rfl) (by kernel_rfl) (⟨fun c hc => by subst hc; exact HS.out.2.below (Below.refl _ _).drew, HS.out.1.below (Below.refl _ _).drew, HL.out.below (Below.refl _ _).drew⟩) (fun bs W W' h hb => ⟨fun c hc => (h.1 c hc).below hb, h.2.1.below hb, h.2.2.below hb⟩) ?_ ?_
          · refine kSt rfl (fun φ hφ => gStep_run rfl ?_) ?_
            · intro ρ W hC hc hf hL
              have e8 : ρ (.tmp 8) = .pointer (some ⟨w.heap.size + 3, 0, none⟩) := hL 8 (by decide +kernel)
              have hφw : φ 6 = false := hφ 6 (by simp) (by kernel_rfl)
              have hl := (hC.1 false (by simp [hφw])).lx.1
              simp [go_sem, hc, hf, e8, hl]
              exact ⟨Below.refl _ _, rfl⟩
            refine kSt rfl (fun φ hφ => gStep_run rfl (gRun_move 10 31 (.inl rfl) rfl (by decide +kernel) (fun v w h => h))) ?_
            refine kSt rfl (fun φ hφ => gStep_run rfl ?_) ?_
            · intro ρ W hC hc hf hL
              have e31 : ρ (.tmp 31) = .int .i64 (p : Nat) := hL 31 (by decide +kernel)
              simp [go_sem, hc, hf, e31]
              refine (HPW.out W).mono ?_
              rintro e w' ⟨rfl, hb⟩
              exact ⟨_, rfl, by first | exact hb | (subst hb; exact Below.refl _ _), rfl⟩
            refine kSt rfl (fun φ hφ => gStep_run rfl ?_) ?_
            · intro ρ W hC hc hf hL
              have hφ0 : φ 6 = false := hφ 6 (by simp) (by kernel_rfl)
              have e30 : ρ (.tmp 30) = .agg #[.int .u64 (dgl (s) 0 : Nat), .int .u64 (dgl (s) 1 : Nat), .int .u64 (dgl (s) 2 : Nat), .int .u64 (dgl (s) 3 : Nat), .int .u64 (dgl (s) 4 : Nat), .int .u64 (dgl (s) 5 : Nat), .int .u64 (dgl (s) 6 : Nat), .int .u64 (dgl (s) 7 : Nat)] := hL 30 (by decide +kernel)
              have e32 : ρ (.tmp 32) = .agg #[.int .u64 (dgl (P) 0 : Nat), .int .u64 (dgl (P) 1 : Nat), .int .u64 (dgl (P) 2 : Nat), .int .u64 (dgl (P) 3 : Nat), .int .u64 (dgl (P) 4 : Nat), .int .u64 (dgl (P) 5 : Nat), .int .u64 (dgl (P) 6 : Nat), .int .u64 (dgl (P) 7 : Nat)] := hL 32 (by decide +kernel)
              simp [go_sem, hc, hf, e30, e32]
              refine ⟨below_allocs _ _, ?_⟩
              show (bif φ 6 then SlotIs.any else SlotIs.wides w.heap.size [s, P]).R _ _
              rw [hφ0]
              exact ⟨_, rfl, by have := hC.2.1.lx.2; omega, by simp, fun i j hi hj => wides2_new W s P _ i j hi hj⟩
            refine kSt rfl (fun φ hφ => gStep_run rfl ?_) ?_
            · intro ρ W hC hc hf hL
              have hφ0 : φ 6 = false := hφ 6 (by simp) (by kernel_rfl)
              have b33 : (bif φ 6 then SlotIs.any  else SlotIs.wides w.heap.size [s, P]).R (ρ (.tmp 33)) W := hL 33 (by decide +kernel)
              rw [hφ0] at b33
              simp [go_sem, hc, hf]
              refine (HSU.out _ _ (wides_rd (by simp) b33)).mono ?_
              rintro e w' ⟨rfl, hb⟩
              exact ⟨_, rfl, by first | exact hb | (subst hb; exact Below.refl _ _), rfl⟩
            refine kSt rfl (fun φ hφ => gStep_run rfl ?_) ?_
            · intro ρ W hC hc hf hL
              have e11 : ρ (.tmp 11) = .pointer (some ⟨p11, 0, none⟩) := hL 11 (by decide +kernel)
              have hl := hC.2.2.1
              simp [go_sem, hc, hf, e11, hl]
              exact ⟨Below.refl _ _, rfl⟩
            refine kStS rfl ⟨rfl, rfl, ?_⟩ ?_
            · intro φ ρ W hφ hC hc hL
              have e8 : ρ (.tmp 8) = .pointer (some ⟨w.heap.size + 3, 0, none⟩) := hL 8 (by decide +kernel)
              have e34 : ρ (.tmp 34) = .agg #[.int .u64 (dgl (s + P) 0 : Nat), .int .u64 (dgl (s + P) 1 : Nat), .int .u64 (dgl (s + P) 2 : Nat), .int .u64 (dgl (s + P) 3 : Nat), .int .u64 (dgl (s + P) 4 : Nat), .int .u64 (dgl (s + P) 5 : Nat), .int .u64 (dgl (s + P) 6 : Nat), .int .u64 (dgl (s + P) 7 : Nat)] := hL 34 (by decide +kernel)
              have g : R2St (w.heap.size + 3) (w.heap.size + 4) s r w W := hC.1 false (by simp [hφ])
              have hz := g.lx.1
              have hzl := g.lx.2
              have hzf := g.fx
              have hp11 := HP11.out
              refine gUpon_of ((((((((W.setCell ⟨w.heap.size + 3, 0, none⟩ (.int .u64 (dgl (s + P) 0 : Nat))).setCell ⟨w.heap.size + 3, 1, none⟩ (.int .u64 (dgl (s + P) 1 : Nat))).setCell ⟨w.heap.size + 3, 2, none⟩ (.int .u64 (dgl (s + P) 2 : Nat))).setCell ⟨w.heap.size + 3, 3, none⟩ (.int .u64 (dgl (s + P) 3 : Nat))).setCell ⟨w.heap.size + 3, 4, none⟩ (.int .u64 (dgl (s + P) 4 : Nat))).setCell ⟨w.heap.size + 3, 5, none⟩ (.int .u64 (dgl (s + P) 5 : Nat))).setCell ⟨w.heap.size + 3, 6, none⟩ (.int .u64 (dgl (s + P) 6 : Nat))).setCell ⟨w.heap.size + 3, 7, none⟩ (.int .u64 (dgl (s + P) 7 : Nat))) ?_ (fun _ => ?_)
              · simp [go_sem, hc, e8, e34, hz, hzl, hzf, gUpon]
              refine ⟨⟨fun c hc => ?_, hC.2.1.other8 (by omega) (by omega) (by omega) (dgl (s + P)), lies_ne hC.2.2 (by omega)⟩, fun t => ?_⟩
              · have hc1 : c = true := by rw [← hc]; simp
                subst hc1
                exact g.set1 _
              refine (tbl_imp rfl (fun _ => val_imp) (tbl_imp rfl (fun _ => val_imp) (tbl_imp rfl (fun _ => val_imp) (tbl_imp rfl (fun _ _ => ?_) (tbl_imp rfl (fun _ => val_imp) (tbl_imp rfl (fun _ => val_imp) tbl_nil_imp))))))
              show (bif (φ 6 || true) then SlotIs.any else SlotIs.wides w.heap.size [s, P]).R _ _
              rw [Bool.or_true]
              trivial
            exact kSt0
          · intro W hC
            refine gFi 30 rfl ?_
            rintro _ rfl
            refine gFi 31 rfl ?_
            rintro _ rfl
            refine gFi 32 rfl ?_
            rintro _ rfl
            refine gFi 33 rfl ?_
            rintro u33 b33
            refine gFi 34 rfl ?_
            rintro _ rfl
            refine gFi 35 rfl ?_
            rintro _ rfl
            refine gFiN rfl ?_
            refine gFi0 ?_
            simp only [List.drop_succ_cons, List.drop_zero, Act.put, List.setIfInBounds_toArray, List.set_cons_succ, List.set_cons_zero]
            have g := hC.1 true rfl
            have HS8 := hide (show R2St (w.heap.size + 1) (w.heap.size + 2) 0 0 w W ∧ R2St (w.heap.size + 3) (w.heap.size + 4) (s + P) r w W from ⟨hC.2.1, g⟩)
            have hl4 := g.ly.1
            have hl4l := g.ly.2
            have hl4f := g.fy
            clear hC g HS HL b33
            have hw : IntKind.i64.wrap ((p : Int) - 1) = (p : Int) - 1 := by rw [IntKind.wrap_i64]; omega
            go_wp2
            go_roundw
            case rel => exact ⟨p, (p : Int) - 1, s + P, x, by omega, hide rfl, rfl, HLF.out.1, HLF.out.2, hide ⟨HS8.out.1.other8 (by omega) (by omega) (by omega) (dgl x), HS8.out.2.set2 x⟩⟩
            case measure => first | (simp [intOf]; done) | (simp [intOf]; omega)
    · obtain rfl : zi = -1 := by have := hzi.out; omega
      obtain rfl : c = 0 := by have := hzi.out; omega
      have hs0 := hs.out
      have hr0 := hr.out
      rw [hiN_zero] at hs0 hr0
      rw [HRE.out] at hr0
      clear hzi hc HLE HHI HSUM HG HCA HPO HSM HHQ hs hr HRE
      subst hs0
      subst hr0
      go_upto_region 9 with fail
      have HS5 := hide (show R2St (w.heap.size + 1) (w.heap.size + 2) 0 0 w wr ∧ LiesF wr (w.heap.size + 3) (dgl s) ∧ LiesF wr (w.heap.size + 4) (dgl r) from ⟨HS.out.1, HS.out.2.lx, HS.out.2.ly⟩)
      have HNE : Hid (w.heap.size + 2 < w.heap.size + 3 ∧ w.heap.size + 2 < w.heap.size + 4) := ⟨by omega, by omega⟩
      clear HS
      refine wp_region_storeK 4 [2, 3] [36, 37] (fun bs => [(36, .val (.agg #[.int .u64 (dgl (s) 0 : Nat), .int .u64 (dgl (s) 1 : Nat), .int .u64 (dgl (s) 2 : Nat), .int .u64 (dgl (s) 3 : Nat), .int .u64 (dgl (s) 4 : Nat), .int .u64 (dgl (s) 5 : Nat), .int .u64 (dgl (s) 6 : Nat), .int .u64 (dgl (s) 7 : Nat)])), (37, .val (.agg #[.int .u64 (dgl (r) 0 : Nat), .int .u64 (dgl (r) 1 : Nat), .int .u64 (dgl (r) 2 : Nat), .int .u64 (dgl (r) 3 : Nat), .int .u64 (dgl (r) 4 : Nat), .int .u64 (dgl (r) 5 : Nat), .int .u64 (dgl (r) 6 : Nat), .int .u64 (dgl (r) 7 : Nat)]))])
        (fun bs W => (∀ c e, bs.headD false = c → bs.tail.headD false = e → R2St (w.heap.size + 1) (w.heap.size + 2) (bif c then s else 0) (bif e then r else 0) w W) ∧ LiesF W (w.heap.size + 3) (dgl (s)) ∧ LiesF W (w.heap.size + 4) (dgl (r))) (fun bs => rfl) mixedOk (by kernel_rfl) (by kernel_rfl) (by kernel_rfl) (⟨fun c e hc he => by subst hc; subst he; exact (HS5.out).1.below (Below.refl _ _).drew, (HS5.out).2.1.below (Below.refl _ _).drew, (HS5.out).2.2.below (Below.refl _ _).drew⟩) (fun bs W W' h hb => ⟨fun c e hc he => (h.1 c e hc he).below hb, h.2.1.below hb, h.2.2.below hb⟩) ?_ ?_
      · refine kSt rfl (fun φ hφ => gStep_run rfl ?_) ?_
        · intro ρ W hC hc hf hL
          have e8 : ρ (.tmp 8) = .pointer (some ⟨(w.heap.size + 3), 0, none⟩) := hL 8 (by decide +kernel)
          have hl := hC.2.1.1
          simp [go_sem, hc, hf, e8, hl]
          exact ⟨Below.refl _ _, rfl⟩
        refine kSt rfl (fun φ hφ => gStep_run rfl ?_) ?_
        · intro ρ W hC hc hf hL
          have e9 : ρ (.tmp 9) = .pointer (some ⟨(w.heap.size + 4), 0, none⟩) := hL 9 (by decide +kernel)
          have hl := hC.2.2.1
          simp [go_sem, hc, hf, e9, hl]
          exact ⟨Below.refl _ _, rfl⟩
        refine kStS rfl ⟨rfl, rfl, ?_⟩ ?_
        · intro φ ρ W hφ hC hc hL
          have e6 : ρ (.tmp 6) = .pointer (some ⟨w.heap.size + 1, 0, none⟩) := hL 6 (by decide +kernel)
          have e36 : ρ (.tmp 36) = .agg #[.int .u64 (dgl (s) 0 : Nat), .int .u64 (dgl (s) 1 : Nat), .int .u64 (dgl (s) 2 : Nat), .int .u64 (dgl (s) 3 : Nat), .int .u64 (dgl (s) 4 : Nat), .int .u64 (dgl (s) 5 : Nat), .int .u64 (dgl (s) 6 : Nat), .int .u64 (dgl (s) 7 : Nat)] := hL 36 (by decide +kernel)
          have g : R2St (w.heap.size + 1) (w.heap.size + 2) 0 (bif φ 3 then r else 0) w W := hC.1 false (φ 3) (by simp [hφ]) rfl
          have hz := g.lx.1
          have hzl := g.lx.2
          have hzf := g.fx
          have hne := HNE.out
          refine gUpon_of ((((((((W.setCell ⟨w.heap.size + 1, 0, none⟩ (.int .u64 (dgl (s) 0 : Nat))).setCell ⟨w.heap.size + 1, 1, none⟩ (.int .u64 (dgl (s) 1 : Nat))).setCell ⟨w.heap.size + 1, 2, none⟩ (.int .u64 (dgl (s) 2 : Nat))).setCell ⟨w.heap.size + 1, 3, none⟩ (.int .u64 (dgl (s) 3 : Nat))).setCell ⟨w.heap.size + 1, 4, none⟩ (.int .u64 (dgl (s) 4 : Nat))).setCell ⟨w.heap.size + 1, 5, none⟩ (.int .u64 (dgl (s) 5 : Nat))).setCell ⟨w.heap.size + 1, 6, none⟩ (.int .u64 (dgl (s) 6 : Nat))).setCell ⟨w.heap.size + 1, 7, none⟩ (.int .u64 (dgl (s) 7 : Nat))) ?_ (fun _ => ?_)
          · simp [go_sem, hc, e6, e36, hz, hzl, hzf, gUpon]
          refine ⟨⟨fun c e hc he => ?_, lies_ne hC.2.1 (by omega), lies_ne hC.2.2 (by omega)⟩, fun t => ?_⟩
          · have hc1 : c = true := by rw [← hc]; simp
            have he1 : e = (φ 3) := by rw [← he]; simp
            subst hc1
            subst he1
            exact g.set1 _
          refine (tbl_imp rfl (fun _ => val_imp) (tbl_imp rfl (fun _ => val_imp) tbl_nil_imp))
        refine kStS rfl ⟨rfl, rfl, ?_⟩ ?_
        · intro φ ρ W hφ hC hc hL
          have e7 : ρ (.tmp 7) = .pointer (some ⟨w.heap.size + 2, 0, none⟩) := hL 7 (by decide +kernel)
          have e37 : ρ (.tmp 37) = .agg #[.int .u64 (dgl (r) 0 : Nat), .int .u64 (dgl (r) 1 : Nat), .int .u64 (dgl (r) 2 : Nat), .int .u64 (dgl (r) 3 : Nat), .int .u64 (dgl (r) 4 : Nat), .int .u64 (dgl (r) 5 : Nat), .int .u64 (dgl (r) 6 : Nat), .int .u64 (dgl (r) 7 : Nat)] := hL 37 (by decide +kernel)
          have g : R2St (w.heap.size + 1) (w.heap.size + 2) (bif φ 2 then s else 0) 0 w W := hC.1 (φ 2) false rfl (by simp [hφ])
          have hz := g.ly.1
          have hzl := g.ly.2
          have hzf := g.fy
          have hne := HNE.out
          refine gUpon_of ((((((((W.setCell ⟨w.heap.size + 2, 0, none⟩ (.int .u64 (dgl (r) 0 : Nat))).setCell ⟨w.heap.size + 2, 1, none⟩ (.int .u64 (dgl (r) 1 : Nat))).setCell ⟨w.heap.size + 2, 2, none⟩ (.int .u64 (dgl (r) 2 : Nat))).setCell ⟨w.heap.size + 2, 3, none⟩ (.int .u64 (dgl (r) 3 : Nat))).setCell ⟨w.heap.size + 2, 4, none⟩ (.int .u64 (dgl (r) 4 : Nat))).setCell ⟨w.heap.size + 2, 5, none⟩ (.int .u64 (dgl (r) 5 : Nat))).setCell ⟨w.heap.size + 2, 6, none⟩ (.int .u64 (dgl (r) 6 : Nat))).setCell ⟨w.heap.size + 2, 7, none⟩ (.int .u64 (dgl (r) 7 : Nat))) ?_ (fun _ => ?_)
          · simp [go_sem, hc, e7, e37, hz, hzl, hzf, gUpon]
          refine ⟨⟨fun c e hc he => ?_, lies_ne hC.2.1 (by omega), lies_ne hC.2.2 (by omega)⟩, fun t => ?_⟩
          · have hc1 : c = (φ 2) := by rw [← hc]; simp
            have he1 : e = true := by rw [← he]; simp
            subst hc1
            subst he1
            exact g.set2 _
          refine (tbl_imp rfl (fun _ => val_imp) (tbl_imp rfl (fun _ => val_imp) tbl_nil_imp))
        exact kSt0
      · intro W hC
        refine gFi 36 rfl ?_
        rintro _ rfl
        refine gFi 37 rfl ?_
        rintro _ rfl
        refine gFiN rfl ?_
        refine gFiN rfl ?_
        refine gFi0 ?_
        simp only [List.drop_succ_cons, List.drop_zero, Act.put, List.setIfInBounds_toArray, List.set_cons_succ, List.set_cons_zero]
        have HS := hide (hC.1 true true rfl rfl)
        clear hC
        have hr1 := HS.out.lx.1
        have hrl1 := HS.out.lx.2
        have hrf1 := HS.out.fx
        have hr2 := HS.out.ly.1
        have hrl2 := HS.out.ly.2
        have hrf2 := HS.out.fy
        have HBE := hide HS.out.bel
        have HO1 := hide HS.out.o1
        have HO2 := hide HS.out.o2
        clear HS
        go_wp2
        exact bodyPost_ret (v := .tuple #[.agg #[.int .u64 (dgl (s) 0 : Nat), .int .u64 (dgl (s) 1 : Nat), .int .u64 (dgl (s) 2 : Nat), .int .u64 (dgl (s) 3 : Nat), .int .u64 (dgl (s) 4 : Nat), .int .u64 (dgl (s) 5 : Nat), .int .u64 (dgl (s) 6 : Nat), .int .u64 (dgl (s) 7 : Nat)], .agg #[.int .u64 (dgl (r) 0 : Nat), .int .u64 (dgl (r) 1 : Nat), .int .u64 (dgl (r) 2 : Nat), .int .u64 (dgl (r) 3 : Nat), .int .u64 (dgl (r) 4 : Nat), .int .u64 (dgl (r) 5 : Nat), .int .u64 (dgl (r) 6 : Nat), .int .u64 (dgl (r) 7 : Nat)]]) (by simp [results, Try.results56, go_sem, hr1, hrl1, hr2, hrl2]) rfl ⟨rfl, HBE.out⟩
  

end Go.Proofs.Ytmbbhagjfgjhgaa

/- Contracts: root2.Root, Cube, and their closures. -/
set_option linter.unusedVariables false
set_option linter.unusedSimpArgs false
set_option maxRecDepth 8000
namespace Go.Proofs.Ytmbbhagjfgjhgaa
open Go.RowKit Plain

/-- A box and a result. -/
structure R1St (a x : Nat) (w W : World) : Prop where
  la : LiesF W w.heap.size (dgl a)
  lr : LiesF W (w.heap.size + 1) (dgl x)
  fr : ∀ i, W.frozen? ⟨w.heap.size + 1, i, none⟩ = false
  bel : Below w.heap.size w W
theorem R1St.under {a x : Nat} {w W W' : World} (h : R1St a x w W) {C : Nat} (hb : Below C W W') (hc : w.heap.size + 1 < C) : R1St a x w W' :=
  ⟨lies_box h.la hb (by omega), lies_box h.lr hb hc, fun i => (hb.frozen (p := ⟨w.heap.size + 1, i, none⟩) hc).trans (h.fr i), h.bel.trans (hb.mono (by omega))⟩
theorem R1St.below {a x : Nat} {w W W' : World} (h : R1St a x w W) (hb : Below W.heap.size W W') : R1St a x w W' := h.under hb h.lr.2
theorem R1St.set8 {a x : Nat} {w W : World} (h : R1St a x w W) (z : Nat) : R1St a z w ((((((((W.setCell ⟨w.heap.size + 1, 0, none⟩ (.int .u64 (dgl z 0 : Nat))).setCell ⟨w.heap.size + 1, 1, none⟩ (.int .u64 (dgl z 1 : Nat))).setCell ⟨w.heap.size + 1, 2, none⟩ (.int .u64 (dgl z 2 : Nat))).setCell ⟨w.heap.size + 1, 3, none⟩ (.int .u64 (dgl z 3 : Nat))).setCell ⟨w.heap.size + 1, 4, none⟩ (.int .u64 (dgl z 4 : Nat))).setCell ⟨w.heap.size + 1, 5, none⟩ (.int .u64 (dgl z 5 : Nat))).setCell ⟨w.heap.size + 1, 6, none⟩ (.int .u64 (dgl z 6 : Nat))).setCell ⟨w.heap.size + 1, 7, none⟩ (.int .u64 (dgl z 7 : Nat))) :=
  ⟨lies_ne h.la (by omega), set8_same W _ (dgl z) (dgl x) h.lr, fun i => by simpa [go_sem] using h.fr i, below_set8 h.bel _ (by omega) _ _ _ _ _ _ _ _⟩
theorem r1_start (a : Nat) (w : World) (e1 e2 : TypeId) : R1St a 0 w ((w.alloc (.cells #[.int .u64 (dgl (a) 0 : Nat), .int .u64 (dgl (a) 1 : Nat), .int .u64 (dgl (a) 2 : Nat), .int .u64 (dgl (a) 3 : Nat), .int .u64 (dgl (a) 4 : Nat), .int .u64 (dgl (a) 5 : Nat), .int .u64 (dgl (a) 6 : Nat), .int .u64 (dgl (a) 7 : Nat)] e1)).alloc (.cells #[.int .u64 0, .int .u64 0, .int .u64 0, .int .u64 0, .int .u64 0, .int .u64 0, .int .u64 0, .int .u64 0] e2)) := by
  have h := liesF_new (w.alloc (.cells #[.int .u64 (dgl (a) 0 : Nat), .int .u64 (dgl (a) 1 : Nat), .int .u64 (dgl (a) 2 : Nat), .int .u64 (dgl (a) 3 : Nat), .int .u64 (dgl (a) 4 : Nat), .int .u64 (dgl (a) 5 : Nat), .int .u64 (dgl (a) 6 : Nat), .int .u64 (dgl (a) 7 : Nat)] e1)) (fun _ => 0) e2
  rw [World.size_alloc] at h
  exact ⟨(liesF_new w (dgl a) e1).alloc _, by rw [dgl_z]; exact h, fun i => by simp [go_sem], below_trans (below_allocs _ _) (below_allocs _ _)⟩
theorem wides4_new (W : World) (q s u v : Nat) (e : TypeId) (i j : Nat) (hi : i < 4) (hj : j < 8) :
    (W.alloc (.cells #[.int .u64 (dgl q 0 : Nat), .int .u64 (dgl q 1 : Nat), .int .u64 (dgl q 2 : Nat), .int .u64 (dgl q 3 : Nat), .int .u64 (dgl q 4 : Nat), .int .u64 (dgl q 5 : Nat), .int .u64 (dgl q 6 : Nat), .int .u64 (dgl q 7 : Nat), .int .u64 (dgl s 0 : Nat), .int .u64 (dgl s 1 : Nat), .int .u64 (dgl s 2 : Nat), .int .u64 (dgl s 3 : Nat), .int .u64 (dgl s 4 : Nat), .int .u64 (dgl s 5 : Nat), .int .u64 (dgl s 6 : Nat), .int .u64 (dgl s 7 : Nat), .int .u64 (dgl u 0 : Nat), .int .u64 (dgl u 1 : Nat), .int .u64 (dgl u 2 : Nat), .int .u64 (dgl u 3 : Nat), .int .u64 (dgl u 4 : Nat), .int .u64 (dgl u 5 : Nat), .int .u64 (dgl u 6 : Nat), .int .u64 (dgl u 7 : Nat), .int .u64 (dgl v 0 : Nat), .int .u64 (dgl v 1 : Nat), .int .u64 (dgl v 2 : Nat), .int .u64 (dgl v 3 : Nat), .int .u64 (dgl v 4 : Nat), .int .u64 (dgl v 5 : Nat), .int .u64 (dgl v 6 : Nat), .int .u64 (dgl v 7 : Nat)] e)).cell? ⟨W.heap.size, i * 8 + j, none⟩ = some (.int .u64 (dgl (dg [q, s, u, v] i) j : Nat)) := by
  rcases (show i = 0 ∨ i = 1 ∨ i = 2 ∨ i = 3 by omega) with rfl | rfl | rfl | rfl <;>
  rcases (show j = 0 ∨ j = 1 ∨ j = 2 ∨ j = 3 ∨ j = 4 ∨ j = 5 ∨ j = 6 ∨ j = 7 by omega) with rfl | rfl | rfl | rfl | rfl | rfl | rfl | rfl <;>
  simp [go_sem, dg]
theorem sumN4 (a b c d : Nat) : sumN [a, b, c, d] 4 = a + b + c + d := by
  show 0 + a + b + c + d = _
  omega
theorem dg4_lt {a b c d X : Nat} (h0 : 0 < X) (ha : a < X) (hb : b < X) (hc : c < X) (hd : d < X) (i : Nat) : dg [a, b, c, d] i < X := by
  match i with
  | 0 => exact ha
  | 1 => exact hb
  | 2 => exact hc
  | 3 => exact hd
  | i + 4 => exact h0
theorem psum2 (s P : Nat) (hs : s < QQ) (hP : P < QQ) (v : Value) (w : World) (hv : RdW w v [s, P]) : Calls Try.prog 44 #[v] w fun e w' => e = .returned (.agg #[.int .u64 (dgl (s + P) 0 : Nat), .int .u64 (dgl (s + P) 1 : Nat), .int .u64 (dgl (s + P) 2 : Nat), .int .u64 (dgl (s + P) 3 : Nat), .int .u64 (dgl (s + P) 4 : Nat), .int .u64 (dgl (s + P) 5 : Nat), .int .u64 (dgl (s + P) 6 : Nat), .int .u64 (dgl (s + P) 7 : Nat)]) ∧ Below w.heap.size w w' := by
  have h := prodSum_any [s, P] v w hv (fun i => dg2_lt (by omega) hs hP i)
  rw [show [s, P].length = 2 from rfl, sumN2] at h
  exact h
theorem psum3 (a b c : Nat) (ha : a < QQ) (hb : b < QQ) (hc : c < QQ) (v : Value) (w : World) (hv : RdW w v [a, b, c]) : Calls Try.prog 44 #[v] w fun e w' => e = .returned (.agg #[.int .u64 (dgl (a + b + c) 0 : Nat), .int .u64 (dgl (a + b + c) 1 : Nat), .int .u64 (dgl (a + b + c) 2 : Nat), .int .u64 (dgl (a + b + c) 3 : Nat), .int .u64 (dgl (a + b + c) 4 : Nat), .int .u64 (dgl (a + b + c) 5 : Nat), .int .u64 (dgl (a + b + c) 6 : Nat), .int .u64 (dgl (a + b + c) 7 : Nat)]) ∧ Below w.heap.size w w' := by
  have h := prodSum_any [a, b, c] v w hv (fun i => dg3_lt (by omega) ha hb hc i)
  rw [show [a, b, c].length = 3 from rfl, sumN3] at h
  exact h
theorem psum4 (a b c d : Nat) (ha : a < QQ) (hb : b < QQ) (hc : c < QQ) (hd : d < QQ) (v : Value) (w : World) (hv : RdW w v [a, b, c, d]) : Calls Try.prog 44 #[v] w fun e w' => e = .returned (.agg #[.int .u64 (dgl (a + b + c + d) 0 : Nat), .int .u64 (dgl (a + b + c + d) 1 : Nat), .int .u64 (dgl (a + b + c + d) 2 : Nat), .int .u64 (dgl (a + b + c + d) 3 : Nat), .int .u64 (dgl (a + b + c + d) 4 : Nat), .int .u64 (dgl (a + b + c + d) 5 : Nat), .int .u64 (dgl (a + b + c + d) 6 : Nat), .int .u64 (dgl (a + b + c + d) 7 : Nat)]) ∧ Below w.heap.size w w' := by
  have h := prodSum_any [a, b, c, d] v w hv (fun i => dg4_lt (by omega) ha hb hc hd i)
  rw [show [a, b, c, d].length = 4 from rfl, sumN4] at h
  exact h

set_option maxHeartbeats 2000000 in
theorem root1_walk (s p P t x : Nat) (HPW : Hid (∀ w, Calls Try.prog 58 #[.int .i64 (p : Nat)] w fun e w' => e = .returned (.agg #[.int .u64 (dgl (P) 0 : Nat), .int .u64 (dgl (P) 1 : Nat), .int .u64 (dgl (P) 2 : Nat), .int .u64 (dgl (P) 3 : Nat), .int .u64 (dgl (P) 4 : Nat), .int .u64 (dgl (P) 5 : Nat), .int .u64 (dgl (P) 6 : Nat), .int .u64 (dgl (P) 7 : Nat)]) ∧ Below w.heap.size w w'))
    (HSU : Hid (∀ v w, RdW w v [s, s, P] → Calls Try.prog 44 #[v] w fun e w' => e = .returned (.agg #[.int .u64 (dgl (t) 0 : Nat), .int .u64 (dgl (t) 1 : Nat), .int .u64 (dgl (t) 2 : Nat), .int .u64 (dgl (t) 3 : Nat), .int .u64 (dgl (t) 4 : Nat), .int .u64 (dgl (t) 5 : Nat), .int .u64 (dgl (t) 6 : Nat), .int .u64 (dgl (t) 7 : Nat)]) ∧ Below w.heap.size w w'))
    (HSH : Hid (∀ w, Calls Try.prog 48 #[.agg #[.int .u64 (dgl (t) 0 : Nat), .int .u64 (dgl (t) 1 : Nat), .int .u64 (dgl (t) 2 : Nat), .int .u64 (dgl (t) 3 : Nat), .int .u64 (dgl (t) 4 : Nat), .int .u64 (dgl (t) 5 : Nat), .int .u64 (dgl (t) 6 : Nat), .int .u64 (dgl (t) 7 : Nat)], .int .i64 (p : Nat)] w fun e w' => e = .returned (.agg #[.int .u64 (dgl (x) 0 : Nat), .int .u64 (dgl (x) 1 : Nat), .int .u64 (dgl (x) 2 : Nat), .int .u64 (dgl (x) 3 : Nat), .int .u64 (dgl (x) 4 : Nat), .int .u64 (dgl (x) 5 : Nat), .int .u64 (dgl (x) 6 : Nat), .int .u64 (dgl (x) 7 : Nat)]) ∧ Below w.heap.size w w')) (w : World) :
    Calls Try.prog 57 #[.agg #[.int .u64 (dgl (s) 0 : Nat), .int .u64 (dgl (s) 1 : Nat), .int .u64 (dgl (s) 2 : Nat), .int .u64 (dgl (s) 3 : Nat), .int .u64 (dgl (s) 4 : Nat), .int .u64 (dgl (s) 5 : Nat), .int .u64 (dgl (s) 6 : Nat), .int .u64 (dgl (s) 7 : Nat)], .int .i64 (p : Nat)] w fun e w' => e = .returned (.agg #[.int .u64 (dgl (x) 0 : Nat), .int .u64 (dgl (x) 1 : Nat), .int .u64 (dgl (x) 2 : Nat), .int .u64 (dgl (x) 3 : Nat), .int .u64 (dgl (x) 4 : Nat), .int .u64 (dgl (x) 5 : Nat), .int .u64 (dgl (x) 6 : Nat), .int .u64 (dgl (x) 7 : Nat)]) ∧ Below w.heap.size w w' := by
  have HS := hide (r1_start s w 24 24)
  go_enter Try.func57, Try.ntmps57
  go_upto_region 1 with fail
  refine wp_gen (fun W => R1St s 0 w W) HS.out ?_
  clear HS
  rintro W1 h1
  refine wp_region_grow 8 [(5, .val (.agg #[.int .u64 (dgl (s) 0 : Nat), .int .u64 (dgl (s) 1 : Nat), .int .u64 (dgl (s) 2 : Nat), .int .u64 (dgl (s) 3 : Nat), .int .u64 (dgl (s) 4 : Nat), .int .u64 (dgl (s) 5 : Nat), .int .u64 (dgl (s) 6 : Nat), .int .u64 (dgl (s) 7 : Nat)])), (6, .val (.agg #[.int .u64 (dgl (s) 0 : Nat), .int .u64 (dgl (s) 1 : Nat), .int .u64 (dgl (s) 2 : Nat), .int .u64 (dgl (s) 3 : Nat), .int .u64 (dgl (s) 4 : Nat), .int .u64 (dgl (s) 5 : Nat), .int .u64 (dgl (s) 6 : Nat), .int .u64 (dgl (s) 7 : Nat)])), (7, .val (.int .i64 (p : Nat))), (8, .val (.agg #[.int .u64 (dgl (P) 0 : Nat), .int .u64 (dgl (P) 1 : Nat), .int .u64 (dgl (P) 2 : Nat), .int .u64 (dgl (P) 3 : Nat), .int .u64 (dgl (P) 4 : Nat), .int .u64 (dgl (P) 5 : Nat), .int .u64 (dgl (P) 6 : Nat), .int .u64 (dgl (P) 7 : Nat)])), (9, .wides w.heap.size [s, s, P]), (10, .val (.agg #[.int .u64 (dgl (t) 0 : Nat), .int .u64 (dgl (t) 1 : Nat), .int .u64 (dgl (t) 2 : Nat), .int .u64 (dgl (t) 3 : Nat), .int .u64 (dgl (t) 4 : Nat), .int .u64 (dgl (t) 5 : Nat), .int .u64 (dgl (t) 6 : Nat), .int .u64 (dgl (t) 7 : Nat)])), (11, .val (.int .i64 (p : Nat))), (12, .val (.agg #[.int .u64 (dgl (x) 0 : Nat), .int .u64 (dgl (x) 1 : Nat), .int .u64 (dgl (x) 2 : Nat), .int .u64 (dgl (x) 3 : Nat), .int .u64 (dgl (x) 4 : Nat), .int .u64 (dgl (x) 5 : Nat), .int .u64 (dgl (x) 6 : Nat), .int .u64 (dgl (x) 7 : Nat)]))]
    (fun W => R1St s 0 w W) mixedOk (by kernel_rfl) (by kernel_rfl) (h1.below (Below.refl _ _).drew) (fun W W' h hb => h.below hb) ?_ ?_
  · refine gSt (gStep_run rfl ?_) ?_
    · intro ρ W hC hc hf hL
      have e2 : ρ (.tmp 2) = .pointer (some ⟨w.heap.size, 0, none⟩) := hL 2 (by decide +kernel)
      have hl := hC.la.1
      simp [go_sem, hc, hf, e2, hl]
      exact ⟨Below.refl _ _, rfl⟩
    refine gSt (gStep_run rfl ?_) ?_
    · intro ρ W hC hc hf hL
      have e2 : ρ (.tmp 2) = .pointer (some ⟨w.heap.size, 0, none⟩) := hL 2 (by decide +kernel)
      have hl := hC.la.1
      simp [go_sem, hc, hf, e2, hl]
      exact ⟨Below.refl _ _, rfl⟩
    refine gSt (gStep_run rfl (gRun_move 1 7 (.inl rfl) rfl (by decide +kernel) (fun v w h => h))) ?_
    refine gSt (gStep_run rfl ?_) ?_
    · intro ρ W hC hc hf hL
      have e7 : ρ (.tmp 7) = .int .i64 (p : Nat) := hL 7 (by decide +kernel)
      simp [go_sem, hc, hf, e7]
      refine (HPW.out W).mono ?_
      rintro e w' ⟨rfl, hb⟩
      exact ⟨_, rfl, by first | exact hb | (subst hb; exact Below.refl _ _), rfl⟩
    refine gSt (gStep_run rfl ?_) ?_
    · intro ρ W hC hc hf hL
      have e5 : ρ (.tmp 5) = .agg #[.int .u64 (dgl (s) 0 : Nat), .int .u64 (dgl (s) 1 : Nat), .int .u64 (dgl (s) 2 : Nat), .int .u64 (dgl (s) 3 : Nat), .int .u64 (dgl (s) 4 : Nat), .int .u64 (dgl (s) 5 : Nat), .int .u64 (dgl (s) 6 : Nat), .int .u64 (dgl (s) 7 : Nat)] := hL 5 (by decide +kernel)
      have e6 : ρ (.tmp 6) = .agg #[.int .u64 (dgl (s) 0 : Nat), .int .u64 (dgl (s) 1 : Nat), .int .u64 (dgl (s) 2 : Nat), .int .u64 (dgl (s) 3 : Nat), .int .u64 (dgl (s) 4 : Nat), .int .u64 (dgl (s) 5 : Nat), .int .u64 (dgl (s) 6 : Nat), .int .u64 (dgl (s) 7 : Nat)] := hL 6 (by decide +kernel)
      have e8 : ρ (.tmp 8) = .agg #[.int .u64 (dgl (P) 0 : Nat), .int .u64 (dgl (P) 1 : Nat), .int .u64 (dgl (P) 2 : Nat), .int .u64 (dgl (P) 3 : Nat), .int .u64 (dgl (P) 4 : Nat), .int .u64 (dgl (P) 5 : Nat), .int .u64 (dgl (P) 6 : Nat), .int .u64 (dgl (P) 7 : Nat)] := hL 8 (by decide +kernel)
      simp [go_sem, hc, hf, e5, e6, e8]
      exact ⟨below_allocs _ _, _, rfl, hC.la.2, by simp, fun i j hi hj => wides3_new W s s P _ i j hi hj⟩
    refine gSt (gStep_run rfl ?_) ?_
    · intro ρ W hC hc hf hL
      have b9 := hL 9 (by decide +kernel)
      simp [go_sem, hc, hf]
      refine (HSU.out _ _ (wides_rd (by simp) b9)).mono ?_
      rintro e w' ⟨rfl, hb⟩
      exact ⟨_, rfl, by first | exact hb | (subst hb; exact Below.refl _ _), rfl⟩
    refine gSt (gStep_run rfl (gRun_move 1 11 (.inl rfl) rfl (by decide +kernel) (fun v w h => h))) ?_
    refine gSt (gStep_run rfl ?_) ?_
    · intro ρ W hC hc hf hL
      have e10 : ρ (.tmp 10) = .agg #[.int .u64 (dgl (t) 0 : Nat), .int .u64 (dgl (t) 1 : Nat), .int .u64 (dgl (t) 2 : Nat), .int .u64 (dgl (t) 3 : Nat), .int .u64 (dgl (t) 4 : Nat), .int .u64 (dgl (t) 5 : Nat), .int .u64 (dgl (t) 6 : Nat), .int .u64 (dgl (t) 7 : Nat)] := hL 10 (by decide +kernel)
      have e11 : ρ (.tmp 11) = .int .i64 (p : Nat) := hL 11 (by decide +kernel)
      simp [go_sem, hc, hf, e10, e11]
      refine (HSH.out W).mono ?_
      rintro e w' ⟨rfl, hb⟩
      exact ⟨_, rfl, by first | exact hb | (subst hb; exact Below.refl _ _), rfl⟩
    exact gSt0
  · intro W hC
    refine gFi 5 rfl ?_
    rintro _ rfl
    refine gFi 6 rfl ?_
    rintro _ rfl
    refine gFi 7 rfl ?_
    rintro _ rfl
    refine gFi 8 rfl ?_
    rintro _ rfl
    refine gFi 9 rfl ?_
    rintro u9 b9
    refine gFi 10 rfl ?_
    rintro _ rfl
    refine gFi 11 rfl ?_
    rintro _ rfl
    refine gFi 12 rfl ?_
    rintro _ rfl
    refine gFi0 ?_
    simp only [List.drop_succ_cons, List.drop_zero, Act.put, List.setIfInBounds_toArray, List.set_cons_succ, List.set_cons_zero]
    clear h1 b9
    have hr1 := hC.lr.1
    have hrl1 := hC.lr.2
    have hrf1 := hC.fr
    have HBE := hide hC.bel
    clear hC
    go_wp2
    exact bodyPost_ret (v := .agg #[.int .u64 (dgl (x) 0 : Nat), .int .u64 (dgl (x) 1 : Nat), .int .u64 (dgl (x) 2 : Nat), .int .u64 (dgl (x) 3 : Nat), .int .u64 (dgl (x) 4 : Nat), .int .u64 (dgl (x) 5 : Nat), .int .u64 (dgl (x) 6 : Nat), .int .u64 (dgl (x) 7 : Nat)]) (by simp [results, Try.results57, go_sem, hr1, hrl1]) rfl ⟨rfl, below_set8 HBE.out _ (by omega) _ _ _ _ _ _ _ _⟩

set_option maxHeartbeats 4000000 in
theorem cube1_walk (s p p2 P P2 t m u x : Nat) (ov : Bool) (hp2 : IntKind.i64.wrap (2 * (p : Int)) = ((p2 : Nat) : Int)) (HPW : Hid (∀ w, Calls Try.prog 58 #[.int .i64 (p : Nat)] w fun e w' => e = .returned (.agg #[.int .u64 (dgl (P) 0 : Nat), .int .u64 (dgl (P) 1 : Nat), .int .u64 (dgl (P) 2 : Nat), .int .u64 (dgl (P) 3 : Nat), .int .u64 (dgl (P) 4 : Nat), .int .u64 (dgl (P) 5 : Nat), .int .u64 (dgl (P) 6 : Nat), .int .u64 (dgl (P) 7 : Nat)]) ∧ Below w.heap.size w w'))
    (HSU : Hid (∀ v w, RdW w v [s, P] → Calls Try.prog 44 #[v] w fun e w' => e = .returned (.agg #[.int .u64 (dgl (t) 0 : Nat), .int .u64 (dgl (t) 1 : Nat), .int .u64 (dgl (t) 2 : Nat), .int .u64 (dgl (t) 3 : Nat), .int .u64 (dgl (t) 4 : Nat), .int .u64 (dgl (t) 5 : Nat), .int .u64 (dgl (t) 6 : Nat), .int .u64 (dgl (t) 7 : Nat)]) ∧ Below w.heap.size w w'))
    (HMU : Hid (∀ w, Calls Try.prog 63 #[.agg #[.int .u64 (dgl (s) 0 : Nat), .int .u64 (dgl (s) 1 : Nat), .int .u64 (dgl (s) 2 : Nat), .int .u64 (dgl (s) 3 : Nat), .int .u64 (dgl (s) 4 : Nat), .int .u64 (dgl (s) 5 : Nat), .int .u64 (dgl (s) 6 : Nat), .int .u64 (dgl (s) 7 : Nat)], .agg #[.int .u64 (dgl (t) 0 : Nat), .int .u64 (dgl (t) 1 : Nat), .int .u64 (dgl (t) 2 : Nat), .int .u64 (dgl (t) 3 : Nat), .int .u64 (dgl (t) 4 : Nat), .int .u64 (dgl (t) 5 : Nat), .int .u64 (dgl (t) 6 : Nat), .int .u64 (dgl (t) 7 : Nat)]] w fun e w' => e = .returned (.tuple #[.agg #[.int .u64 (dgl (m) 0 : Nat), .int .u64 (dgl (m) 1 : Nat), .int .u64 (dgl (m) 2 : Nat), .int .u64 (dgl (m) 3 : Nat), .int .u64 (dgl (m) 4 : Nat), .int .u64 (dgl (m) 5 : Nat), .int .u64 (dgl (m) 6 : Nat), .int .u64 (dgl (m) 7 : Nat)], .bool ov]) ∧ Below w.heap.size w w'))
    (HP2 : Hid (∀ w, Calls Try.prog 58 #[.int .i64 (p2 : Nat)] w fun e w' => e = .returned (.agg #[.int .u64 (dgl (P2) 0 : Nat), .int .u64 (dgl (P2) 1 : Nat), .int .u64 (dgl (P2) 2 : Nat), .int .u64 (dgl (P2) 3 : Nat), .int .u64 (dgl (P2) 4 : Nat), .int .u64 (dgl (P2) 5 : Nat), .int .u64 (dgl (P2) 6 : Nat), .int .u64 (dgl (P2) 7 : Nat)]) ∧ Below w.heap.size w w'))
    (HS4 : Hid (∀ v w, RdW w v [m, m, m, P2] → Calls Try.prog 44 #[v] w fun e w' => e = .returned (.agg #[.int .u64 (dgl (u) 0 : Nat), .int .u64 (dgl (u) 1 : Nat), .int .u64 (dgl (u) 2 : Nat), .int .u64 (dgl (u) 3 : Nat), .int .u64 (dgl (u) 4 : Nat), .int .u64 (dgl (u) 5 : Nat), .int .u64 (dgl (u) 6 : Nat), .int .u64 (dgl (u) 7 : Nat)]) ∧ Below w.heap.size w w'))
    (HSH : Hid (∀ w, Calls Try.prog 48 #[.agg #[.int .u64 (dgl (u) 0 : Nat), .int .u64 (dgl (u) 1 : Nat), .int .u64 (dgl (u) 2 : Nat), .int .u64 (dgl (u) 3 : Nat), .int .u64 (dgl (u) 4 : Nat), .int .u64 (dgl (u) 5 : Nat), .int .u64 (dgl (u) 6 : Nat), .int .u64 (dgl (u) 7 : Nat)], .int .i64 (p : Nat)] w fun e w' => e = .returned (.agg #[.int .u64 (dgl (x) 0 : Nat), .int .u64 (dgl (x) 1 : Nat), .int .u64 (dgl (x) 2 : Nat), .int .u64 (dgl (x) 3 : Nat), .int .u64 (dgl (x) 4 : Nat), .int .u64 (dgl (x) 5 : Nat), .int .u64 (dgl (x) 6 : Nat), .int .u64 (dgl (x) 7 : Nat)]) ∧ Below w.heap.size w w')) (w : World) :
    Calls Try.prog 62 #[.agg #[.int .u64 (dgl (s) 0 : Nat), .int .u64 (dgl (s) 1 : Nat), .int .u64 (dgl (s) 2 : Nat), .int .u64 (dgl (s) 3 : Nat), .int .u64 (dgl (s) 4 : Nat), .int .u64 (dgl (s) 5 : Nat), .int .u64 (dgl (s) 6 : Nat), .int .u64 (dgl (s) 7 : Nat)], .int .i64 (p : Nat)] w fun e w' => e = .returned (.agg #[.int .u64 (dgl (x) 0 : Nat), .int .u64 (dgl (x) 1 : Nat), .int .u64 (dgl (x) 2 : Nat), .int .u64 (dgl (x) 3 : Nat), .int .u64 (dgl (x) 4 : Nat), .int .u64 (dgl (x) 5 : Nat), .int .u64 (dgl (x) 6 : Nat), .int .u64 (dgl (x) 7 : Nat)]) ∧ Below w.heap.size w w' := by
  have HS := hide (r1_start s w 24 24)
  go_enter Try.func62, Try.ntmps62
  go_upto_region 1 with fail
  refine wp_gen (fun W => R1St s 0 w W) HS.out ?_
  clear HS
  rintro W1 h1
  refine wp_region_storeK 13 [11] [8, 9, 10, 11, 12, 13, 14, 7, 15, 16, 5, 6] (fun bs => [(8, .val (.agg #[.int .u64 (dgl (s) 0 : Nat), .int .u64 (dgl (s) 1 : Nat), .int .u64 (dgl (s) 2 : Nat), .int .u64 (dgl (s) 3 : Nat), .int .u64 (dgl (s) 4 : Nat), .int .u64 (dgl (s) 5 : Nat), .int .u64 (dgl (s) 6 : Nat), .int .u64 (dgl (s) 7 : Nat)])), (9, .val (.agg #[.int .u64 (dgl (s) 0 : Nat), .int .u64 (dgl (s) 1 : Nat), .int .u64 (dgl (s) 2 : Nat), .int .u64 (dgl (s) 3 : Nat), .int .u64 (dgl (s) 4 : Nat), .int .u64 (dgl (s) 5 : Nat), .int .u64 (dgl (s) 6 : Nat), .int .u64 (dgl (s) 7 : Nat)])), (10, .val (.int .i64 (p : Nat))), (11, .val (.agg #[.int .u64 (dgl (P) 0 : Nat), .int .u64 (dgl (P) 1 : Nat), .int .u64 (dgl (P) 2 : Nat), .int .u64 (dgl (P) 3 : Nat), .int .u64 (dgl (P) 4 : Nat), .int .u64 (dgl (P) 5 : Nat), .int .u64 (dgl (P) 6 : Nat), .int .u64 (dgl (P) 7 : Nat)])), (12, bif bs.headD false then SlotIs.any  else SlotIs.wides w.heap.size [s, P]), (13, .val (.agg #[.int .u64 (dgl (t) 0 : Nat), .int .u64 (dgl (t) 1 : Nat), .int .u64 (dgl (t) 2 : Nat), .int .u64 (dgl (t) 3 : Nat), .int .u64 (dgl (t) 4 : Nat), .int .u64 (dgl (t) 5 : Nat), .int .u64 (dgl (t) 6 : Nat), .int .u64 (dgl (t) 7 : Nat)])), (14, .val (.tuple #[.agg #[.int .u64 (dgl (m) 0 : Nat), .int .u64 (dgl (m) 1 : Nat), .int .u64 (dgl (m) 2 : Nat), .int .u64 (dgl (m) 3 : Nat), .int .u64 (dgl (m) 4 : Nat), .int .u64 (dgl (m) 5 : Nat), .int .u64 (dgl (m) 6 : Nat), .int .u64 (dgl (m) 7 : Nat)], .bool ov])), (7, .val (.tuple #[.agg #[.int .u64 (dgl (m) 0 : Nat), .int .u64 (dgl (m) 1 : Nat), .int .u64 (dgl (m) 2 : Nat), .int .u64 (dgl (m) 3 : Nat), .int .u64 (dgl (m) 4 : Nat), .int .u64 (dgl (m) 5 : Nat), .int .u64 (dgl (m) 6 : Nat), .int .u64 (dgl (m) 7 : Nat)], .bool ov])), (15, .val (.agg #[.int .u64 (dgl (m) 0 : Nat), .int .u64 (dgl (m) 1 : Nat), .int .u64 (dgl (m) 2 : Nat), .int .u64 (dgl (m) 3 : Nat), .int .u64 (dgl (m) 4 : Nat), .int .u64 (dgl (m) 5 : Nat), .int .u64 (dgl (m) 6 : Nat), .int .u64 (dgl (m) 7 : Nat)])), (16, .val (.bool ov)), (5, bif bs.headD false then SlotIs.box (w.heap.size + 2) (dgl m) else SlotIs.box (w.heap.size + 2) (fun _ => 0)), (6, .val (.bool ov))])
    (fun _ W => R1St s 0 w W) (fun bs => rfl) mixedOk (by kernel_rfl) (by kernel_rfl) (by kernel_rfl) (h1.below (Below.refl _ _).drew) (fun bs W W' h hb => h.below hb) ?_ ?_
  · refine kSt rfl (fun φ hφ => gStep_run rfl ?_) ?_
    · intro ρ W hC hc hf hL
      have e2 : ρ (.tmp 2) = .pointer (some ⟨w.heap.size, 0, none⟩) := hL 2 (by decide +kernel)
      have hl := hC.la.1
      simp [go_sem, hc, hf, e2, hl]
      exact ⟨Below.refl _ _, rfl⟩
    refine kSt rfl (fun φ hφ => gStep_run rfl ?_) ?_
    · intro ρ W hC hc hf hL
      have e2 : ρ (.tmp 2) = .pointer (some ⟨w.heap.size, 0, none⟩) := hL 2 (by decide +kernel)
      have hl := hC.la.1
      simp [go_sem, hc, hf, e2, hl]
      exact ⟨Below.refl _ _, rfl⟩
    refine kSt rfl (fun φ hφ => gStep_run rfl (gRun_move 1 10 (.inl rfl) rfl (by decide +kernel) (fun v w h => h))) ?_
    refine kSt rfl (fun φ hφ => gStep_run rfl ?_) ?_
    · intro ρ W hC hc hf hL
      have e10 : ρ (.tmp 10) = .int .i64 (p : Nat) := hL 10 (by decide +kernel)
      simp [go_sem, hc, hf, e10]
      refine (HPW.out W).mono ?_
      rintro e w' ⟨rfl, hb⟩
      exact ⟨_, rfl, by first | exact hb | (subst hb; exact Below.refl _ _), rfl⟩
    refine kSt rfl (fun φ hφ => gStep_run rfl ?_) ?_
    · intro ρ W hC hc hf hL
      have hφ0 : φ 11 = false := hφ 11 (by simp) (by kernel_rfl)
      have e9 : ρ (.tmp 9) = .agg #[.int .u64 (dgl (s) 0 : Nat), .int .u64 (dgl (s) 1 : Nat), .int .u64 (dgl (s) 2 : Nat), .int .u64 (dgl (s) 3 : Nat), .int .u64 (dgl (s) 4 : Nat), .int .u64 (dgl (s) 5 : Nat), .int .u64 (dgl (s) 6 : Nat), .int .u64 (dgl (s) 7 : Nat)] := hL 9 (by decide +kernel)
      have e11 : ρ (.tmp 11) = .agg #[.int .u64 (dgl (P) 0 : Nat), .int .u64 (dgl (P) 1 : Nat), .int .u64 (dgl (P) 2 : Nat), .int .u64 (dgl (P) 3 : Nat), .int .u64 (dgl (P) 4 : Nat), .int .u64 (dgl (P) 5 : Nat), .int .u64 (dgl (P) 6 : Nat), .int .u64 (dgl (P) 7 : Nat)] := hL 11 (by decide +kernel)
      simp [go_sem, hc, hf, e9, e11]
      refine ⟨below_allocs _ _, ?_⟩
      show (bif φ 11 then SlotIs.any else SlotIs.wides w.heap.size [s, P]).R _ _
      rw [hφ0]
      exact ⟨_, rfl, hC.la.2, by simp, fun i j hi hj => wides2_new W s P _ i j hi hj⟩
    refine kSt rfl (fun φ hφ => gStep_run rfl ?_) ?_
    · intro ρ W hC hc hf hL
      have hφ0 : φ 11 = false := hφ 11 (by simp) (by kernel_rfl)
      have b12 : (bif φ 11 then SlotIs.any  else SlotIs.wides w.heap.size [s, P]).R (ρ (.tmp 12)) W := hL 12 (by decide +kernel)
      rw [hφ0] at b12
      simp [go_sem, hc, hf]
      refine (HSU.out _ _ (wides_rd (by simp) b12)).mono ?_
      rintro e w' ⟨rfl, hb⟩
      exact ⟨_, rfl, by first | exact hb | (subst hb; exact Below.refl _ _), rfl⟩
    refine kSt rfl (fun φ hφ => gStep_run rfl ?_) ?_
    · intro ρ W hC hc hf hL
      have e8 : ρ (.tmp 8) = .agg #[.int .u64 (dgl (s) 0 : Nat), .int .u64 (dgl (s) 1 : Nat), .int .u64 (dgl (s) 2 : Nat), .int .u64 (dgl (s) 3 : Nat), .int .u64 (dgl (s) 4 : Nat), .int .u64 (dgl (s) 5 : Nat), .int .u64 (dgl (s) 6 : Nat), .int .u64 (dgl (s) 7 : Nat)] := hL 8 (by decide +kernel)
      have e13 : ρ (.tmp 13) = .agg #[.int .u64 (dgl (t) 0 : Nat), .int .u64 (dgl (t) 1 : Nat), .int .u64 (dgl (t) 2 : Nat), .int .u64 (dgl (t) 3 : Nat), .int .u64 (dgl (t) 4 : Nat), .int .u64 (dgl (t) 5 : Nat), .int .u64 (dgl (t) 6 : Nat), .int .u64 (dgl (t) 7 : Nat)] := hL 13 (by decide +kernel)
      simp [go_sem, hc, hf, e8, e13]
      refine (HMU.out W).mono ?_
      rintro e w' ⟨rfl, hb⟩
      exact ⟨_, rfl, by first | exact hb | (subst hb; exact Below.refl _ _), rfl⟩
    refine kSt rfl (fun φ hφ => gStep_run rfl (gRun_move 14 7 (.inl rfl) rfl (by decide +kernel) (fun v w h => h))) ?_
    refine kSt rfl (fun φ hφ => gStep_run rfl ?_) ?_
    · intro ρ W hC hc hf hL
      have e7 : ρ (.tmp 7) = .tuple #[.agg #[.int .u64 (dgl (m) 0 : Nat), .int .u64 (dgl (m) 1 : Nat), .int .u64 (dgl (m) 2 : Nat), .int .u64 (dgl (m) 3 : Nat), .int .u64 (dgl (m) 4 : Nat), .int .u64 (dgl (m) 5 : Nat), .int .u64 (dgl (m) 6 : Nat), .int .u64 (dgl (m) 7 : Nat)], .bool ov] := hL 7 (by decide +kernel)
      simp [go_sem, hc, hf, e7]
      exact ⟨Below.refl _ _, rfl⟩
    refine kSt rfl (fun φ hφ => gStep_run rfl ?_) ?_
    · intro ρ W hC hc hf hL
      have e7 : ρ (.tmp 7) = .tuple #[.agg #[.int .u64 (dgl (m) 0 : Nat), .int .u64 (dgl (m) 1 : Nat), .int .u64 (dgl (m) 2 : Nat), .int .u64 (dgl (m) 3 : Nat), .int .u64 (dgl (m) 4 : Nat), .int .u64 (dgl (m) 5 : Nat), .int .u64 (dgl (m) 6 : Nat), .int .u64 (dgl (m) 7 : Nat)], .bool ov] := hL 7 (by decide +kernel)
      simp [go_sem, hc, hf, e7]
      exact ⟨Below.refl _ _, rfl⟩
    refine kSt rfl (fun φ hφ => gStep_run rfl ?_) ?_
    · intro ρ W hC hc hf hL
      have hφ0 : φ 11 = false := hφ 11 (by simp) (by kernel_rfl)
      simp [go_sem, hc, hf]
      refine ⟨below_allocs _ _, ?_⟩
      show (bif φ 11 then SlotIs.box (w.heap.size + 2) (dgl m) else SlotIs.box (w.heap.size + 2) (fun _ => 0)).R _ _
      rw [hφ0]
      exact ⟨_, rfl, hC.lr.2, liesF_new _ (fun _ => 0) _, fun i => by simp [go_sem]⟩
    refine kStS rfl ⟨rfl, rfl, ?_⟩ ?_
    · intro φ ρ W hφ hC hc hL
      have b5 := hL 5 (by decide +kernel)
      have e15 : ρ (.tmp 15) = .agg #[.int .u64 (dgl (m) 0 : Nat), .int .u64 (dgl (m) 1 : Nat), .int .u64 (dgl (m) 2 : Nat), .int .u64 (dgl (m) 3 : Nat), .int .u64 (dgl (m) 4 : Nat), .int .u64 (dgl (m) 5 : Nat), .int .u64 (dgl (m) 6 : Nat), .int .u64 (dgl (m) 7 : Nat)] := hL 15 (by decide +kernel)
      have bx : (bif φ 11 then SlotIs.box (w.heap.size + 2) (dgl m) else SlotIs.box (w.heap.size + 2) (fun _ => 0)).R (ρ (.tmp 5)) W := hL 5 (by decide +kernel)
      rw [hφ] at bx
      obtain ⟨px, ex, qx, lx, zx⟩ := bx
      have hz := lx.1
      have hzl := lx.2
      refine gUpon_of ((((((((W.setCell ⟨px, 0, none⟩ (.int .u64 (dgl m 0 : Nat))).setCell ⟨px, 1, none⟩ (.int .u64 (dgl m 1 : Nat))).setCell ⟨px, 2, none⟩ (.int .u64 (dgl m 2 : Nat))).setCell ⟨px, 3, none⟩ (.int .u64 (dgl m 3 : Nat))).setCell ⟨px, 4, none⟩ (.int .u64 (dgl m 4 : Nat))).setCell ⟨px, 5, none⟩ (.int .u64 (dgl m 5 : Nat))).setCell ⟨px, 6, none⟩ (.int .u64 (dgl m 6 : Nat))).setCell ⟨px, 7, none⟩ (.int .u64 (dgl m 7 : Nat))) ?_ (fun _ => ?_)
      · simp [go_sem, hc, e15, ex, hz, hzl, zx, gUpon]
      have hs8 := below_set8 (Below.refl (w.heap.size + 2) W) px qx (.int .u64 (dgl m 0 : Nat)) (.int .u64 (dgl m 1 : Nat)) (.int .u64 (dgl m 2 : Nat)) (.int .u64 (dgl m 3 : Nat)) (.int .u64 (dgl m 4 : Nat)) (.int .u64 (dgl m 5 : Nat)) (.int .u64 (dgl m 6 : Nat)) (.int .u64 (dgl m 7 : Nat))
      refine ⟨hC.under hs8 (by omega), fun t => ?_⟩
      refine (tbl_imp rfl (fun _ => val_imp) (tbl_imp rfl (fun _ => val_imp) (tbl_imp rfl (fun _ => val_imp) (tbl_imp rfl (fun _ => val_imp) (tbl_imp rfl (fun _ _ => ?_) (tbl_imp rfl (fun _ => val_imp) (tbl_imp rfl (fun _ => val_imp) (tbl_imp rfl (fun _ => val_imp) (tbl_imp rfl (fun _ => val_imp) (tbl_imp rfl (fun _ => val_imp) (tbl_imp rfl (fun ht h => ?_) (tbl_imp rfl (fun _ => val_imp) tbl_nil_imp))))))))))))
      · show (bif (φ 11 || true) then SlotIs.any else SlotIs.wides w.heap.size [s, P]).R _ _
        rw [Bool.or_true]
        trivial
      · subst ht
        show (bif (φ 11 || true) then SlotIs.box (w.heap.size + 2) (dgl m) else SlotIs.box (w.heap.size + 2) (fun _ => 0)).R _ _
        rw [Bool.or_true]
        exact ⟨px, ex, qx, set8_same W px (dgl m) (fun _ => 0) lx, fun i => by simpa [go_sem] using zx i⟩
    refine kSt rfl (fun φ hφ => gStep_run rfl (gRun_move 16 6 (.inr rfl) rfl (by decide +kernel) (fun v w h => h))) ?_
    exact kSt0
  · intro W hC
    refine gFi 8 rfl ?_
    rintro _ rfl
    refine gFi 9 rfl ?_
    rintro _ rfl
    refine gFi 10 rfl ?_
    rintro _ rfl
    refine gFi 11 rfl ?_
    rintro _ rfl
    refine gFi 12 rfl ?_
    rintro u12 b12
    refine gFi 13 rfl ?_
    rintro _ rfl
    refine gFi 14 rfl ?_
    rintro _ rfl
    refine gFi 7 rfl ?_
    rintro _ rfl
    refine gFi 15 rfl ?_
    rintro _ rfl
    refine gFi 16 rfl ?_
    rintro _ rfl
    refine gFi 5 rfl ?_
    rintro _ ⟨p5, rfl, q5, l5, z5⟩
    refine gFiN rfl ?_
    refine gFi 6 rfl ?_
    rintro _ rfl
    refine gFi0 ?_
    simp only [List.drop_succ_cons, List.drop_zero, Act.put, List.setIfInBounds_toArray, List.set_cons_succ, List.set_cons_zero]
    have HS := hide (show R1St s 0 w W ∧ LiesF W p5 (dgl m) from ⟨hC, l5⟩)
    clear hC h1 l5 z5 b12 q5
    go_upto_region 2 with fail
    refine wp_gen (fun W => R1St s 0 w W ∧ LiesF W p5 (dgl m)) HS.out ?_
    clear HS
    rintro W2 h2
    refine wp_region_grow 10 [(17, .val (.agg #[.int .u64 (dgl (m) 0 : Nat), .int .u64 (dgl (m) 1 : Nat), .int .u64 (dgl (m) 2 : Nat), .int .u64 (dgl (m) 3 : Nat), .int .u64 (dgl (m) 4 : Nat), .int .u64 (dgl (m) 5 : Nat), .int .u64 (dgl (m) 6 : Nat), .int .u64 (dgl (m) 7 : Nat)])), (18, .val (.agg #[.int .u64 (dgl (m) 0 : Nat), .int .u64 (dgl (m) 1 : Nat), .int .u64 (dgl (m) 2 : Nat), .int .u64 (dgl (m) 3 : Nat), .int .u64 (dgl (m) 4 : Nat), .int .u64 (dgl (m) 5 : Nat), .int .u64 (dgl (m) 6 : Nat), .int .u64 (dgl (m) 7 : Nat)])), (19, .val (.agg #[.int .u64 (dgl (m) 0 : Nat), .int .u64 (dgl (m) 1 : Nat), .int .u64 (dgl (m) 2 : Nat), .int .u64 (dgl (m) 3 : Nat), .int .u64 (dgl (m) 4 : Nat), .int .u64 (dgl (m) 5 : Nat), .int .u64 (dgl (m) 6 : Nat), .int .u64 (dgl (m) 7 : Nat)])), (20, .val (.int .i64 (p : Nat))), (21, .val (.int .i64 ((p2 : Nat) : Int))), (22, .val (.agg #[.int .u64 (dgl (P2) 0 : Nat), .int .u64 (dgl (P2) 1 : Nat), .int .u64 (dgl (P2) 2 : Nat), .int .u64 (dgl (P2) 3 : Nat), .int .u64 (dgl (P2) 4 : Nat), .int .u64 (dgl (P2) 5 : Nat), .int .u64 (dgl (P2) 6 : Nat), .int .u64 (dgl (P2) 7 : Nat)])), (23, .wides w.heap.size [m, m, m, P2]), (24, .val (.agg #[.int .u64 (dgl (u) 0 : Nat), .int .u64 (dgl (u) 1 : Nat), .int .u64 (dgl (u) 2 : Nat), .int .u64 (dgl (u) 3 : Nat), .int .u64 (dgl (u) 4 : Nat), .int .u64 (dgl (u) 5 : Nat), .int .u64 (dgl (u) 6 : Nat), .int .u64 (dgl (u) 7 : Nat)])), (25, .val (.int .i64 (p : Nat))), (26, .val (.agg #[.int .u64 (dgl (x) 0 : Nat), .int .u64 (dgl (x) 1 : Nat), .int .u64 (dgl (x) 2 : Nat), .int .u64 (dgl (x) 3 : Nat), .int .u64 (dgl (x) 4 : Nat), .int .u64 (dgl (x) 5 : Nat), .int .u64 (dgl (x) 6 : Nat), .int .u64 (dgl (x) 7 : Nat)]))]
      (fun W => R1St s 0 w W ∧ LiesF W p5 (dgl m)) mixedOk (by kernel_rfl) (by kernel_rfl) (⟨h2.1.below (Below.refl _ _).drew, h2.2.below (Below.refl _ _).drew⟩) (fun W W' h hb => ⟨h.1.below hb, h.2.below hb⟩) ?_ ?_
    · refine gSt (gStep_run rfl ?_) ?_
      · intro ρ W hC hc hf hL
        have e5 : ρ (.tmp 5) = .pointer (some ⟨p5, 0, none⟩) := hL 5 (by decide +kernel)
        have hl := hC.2.1
        simp [go_sem, hc, hf, e5, hl]
        exact ⟨Below.refl _ _, rfl⟩
      refine gSt (gStep_run rfl ?_) ?_
      · intro ρ W hC hc hf hL
        have e5 : ρ (.tmp 5) = .pointer (some ⟨p5, 0, none⟩) := hL 5 (by decide +kernel)
        have hl := hC.2.1
        simp [go_sem, hc, hf, e5, hl]
        exact ⟨Below.refl _ _, rfl⟩
      refine gSt (gStep_run rfl ?_) ?_
      · intro ρ W hC hc hf hL
        have e5 : ρ (.tmp 5) = .pointer (some ⟨p5, 0, none⟩) := hL 5 (by decide +kernel)
        have hl := hC.2.1
        simp [go_sem, hc, hf, e5, hl]
        exact ⟨Below.refl _ _, rfl⟩
      refine gSt (gStep_run rfl (gRun_move 1 20 (.inl rfl) rfl (by decide +kernel) (fun v w h => h))) ?_
      refine gSt (gStep_run rfl ?_) ?_
      · intro ρ W hC hc hf hL
        have e20 : ρ (.tmp 20) = .int .i64 (p : Nat) := hL 20 (by decide +kernel)
        simp [go_sem, hc, hf, e20, hp2]
        exact ⟨Below.refl _ _, rfl⟩
      refine gSt (gStep_run rfl ?_) ?_
      · intro ρ W hC hc hf hL
        have e21 : ρ (.tmp 21) = .int .i64 ((p2 : Nat) : Int) := hL 21 (by decide +kernel)
        simp [go_sem, hc, hf, e21]
        refine (HP2.out W).mono ?_
        rintro e w' ⟨rfl, hb⟩
        exact ⟨_, rfl, by first | exact hb | (subst hb; exact Below.refl _ _), rfl⟩
      refine gSt (gStep_run rfl ?_) ?_
      · intro ρ W hC hc hf hL
        have e17 : ρ (.tmp 17) = .agg #[.int .u64 (dgl (m) 0 : Nat), .int .u64 (dgl (m) 1 : Nat), .int .u64 (dgl (m) 2 : Nat), .int .u64 (dgl (m) 3 : Nat), .int .u64 (dgl (m) 4 : Nat), .int .u64 (dgl (m) 5 : Nat), .int .u64 (dgl (m) 6 : Nat), .int .u64 (dgl (m) 7 : Nat)] := hL 17 (by decide +kernel)
        have e18 : ρ (.tmp 18) = .agg #[.int .u64 (dgl (m) 0 : Nat), .int .u64 (dgl (m) 1 : Nat), .int .u64 (dgl (m) 2 : Nat), .int .u64 (dgl (m) 3 : Nat), .int .u64 (dgl (m) 4 : Nat), .int .u64 (dgl (m) 5 : Nat), .int .u64 (dgl (m) 6 : Nat), .int .u64 (dgl (m) 7 : Nat)] := hL 18 (by decide +kernel)
        have e19 : ρ (.tmp 19) = .agg #[.int .u64 (dgl (m) 0 : Nat), .int .u64 (dgl (m) 1 : Nat), .int .u64 (dgl (m) 2 : Nat), .int .u64 (dgl (m) 3 : Nat), .int .u64 (dgl (m) 4 : Nat), .int .u64 (dgl (m) 5 : Nat), .int .u64 (dgl (m) 6 : Nat), .int .u64 (dgl (m) 7 : Nat)] := hL 19 (by decide +kernel)
        have e22 : ρ (.tmp 22) = .agg #[.int .u64 (dgl (P2) 0 : Nat), .int .u64 (dgl (P2) 1 : Nat), .int .u64 (dgl (P2) 2 : Nat), .int .u64 (dgl (P2) 3 : Nat), .int .u64 (dgl (P2) 4 : Nat), .int .u64 (dgl (P2) 5 : Nat), .int .u64 (dgl (P2) 6 : Nat), .int .u64 (dgl (P2) 7 : Nat)] := hL 22 (by decide +kernel)
        simp [go_sem, hc, hf, e17, e18, e19, e22]
        exact ⟨below_allocs _ _, _, rfl, hC.1.la.2, by simp, fun i j hi hj => wides4_new W m m m P2 _ i j hi hj⟩
      refine gSt (gStep_run rfl ?_) ?_
      · intro ρ W hC hc hf hL
        have b23 := hL 23 (by decide +kernel)
        simp [go_sem, hc, hf]
        refine (HS4.out _ _ (wides_rd (by simp) b23)).mono ?_
        rintro e w' ⟨rfl, hb⟩
        exact ⟨_, rfl, by first | exact hb | (subst hb; exact Below.refl _ _), rfl⟩
      refine gSt (gStep_run rfl (gRun_move 1 25 (.inl rfl) rfl (by decide +kernel) (fun v w h => h))) ?_
      refine gSt (gStep_run rfl ?_) ?_
      · intro ρ W hC hc hf hL
        have e24 : ρ (.tmp 24) = .agg #[.int .u64 (dgl (u) 0 : Nat), .int .u64 (dgl (u) 1 : Nat), .int .u64 (dgl (u) 2 : Nat), .int .u64 (dgl (u) 3 : Nat), .int .u64 (dgl (u) 4 : Nat), .int .u64 (dgl (u) 5 : Nat), .int .u64 (dgl (u) 6 : Nat), .int .u64 (dgl (u) 7 : Nat)] := hL 24 (by decide +kernel)
        have e25 : ρ (.tmp 25) = .int .i64 (p : Nat) := hL 25 (by decide +kernel)
        simp [go_sem, hc, hf, e24, e25]
        refine (HSH.out W).mono ?_
        rintro e w' ⟨rfl, hb⟩
        exact ⟨_, rfl, by first | exact hb | (subst hb; exact Below.refl _ _), rfl⟩
      exact gSt0
    · intro W hC
      refine gFi 17 rfl ?_
      rintro _ rfl
      refine gFi 18 rfl ?_
      rintro _ rfl
      refine gFi 19 rfl ?_
      rintro _ rfl
      refine gFi 20 rfl ?_
      rintro _ rfl
      refine gFi 21 rfl ?_
      rintro _ rfl
      refine gFi 22 rfl ?_
      rintro _ rfl
      refine gFi 23 rfl ?_
      rintro u23 b23
      refine gFi 24 rfl ?_
      rintro _ rfl
      refine gFi 25 rfl ?_
      rintro _ rfl
      refine gFi 26 rfl ?_
      rintro _ rfl
      refine gFi0 ?_
      simp only [List.drop_succ_cons, List.drop_zero, Act.put, List.setIfInBounds_toArray, List.set_cons_succ, List.set_cons_zero]
      replace hC := hC.1
      clear h2 b23
      have hr1 := hC.lr.1
      have hrl1 := hC.lr.2
      have hrf1 := hC.fr
      have HBE := hide hC.bel
      clear hC
      go_wp2
      exact bodyPost_ret (v := .agg #[.int .u64 (dgl (x) 0 : Nat), .int .u64 (dgl (x) 1 : Nat), .int .u64 (dgl (x) 2 : Nat), .int .u64 (dgl (x) 3 : Nat), .int .u64 (dgl (x) 4 : Nat), .int .u64 (dgl (x) 5 : Nat), .int .u64 (dgl (x) 6 : Nat), .int .u64 (dgl (x) 7 : Nat)]) (by simp [results, Try.results62, go_sem, hr1, hrl1]) rfl ⟨rfl, below_set8 HBE.out _ (by omega) _ _ _ _ _ _ _ _⟩
    

set_option maxHeartbeats 1000000 in
theorem beyond_walk (n L : Nat) (z : Bool) (hz : decide ((256 : Int) < (L : Int)) = z) (HLN : Hid (∀ w, Calls Try.prog 46 #[.agg #[.int .u64 (dgl (n) 0 : Nat), .int .u64 (dgl (n) 1 : Nat), .int .u64 (dgl (n) 2 : Nat), .int .u64 (dgl (n) 3 : Nat), .int .u64 (dgl (n) 4 : Nat), .int .u64 (dgl (n) 5 : Nat), .int .u64 (dgl (n) 6 : Nat), .int .u64 (dgl (n) 7 : Nat)]] w fun e w' => e = .returned (.int .i64 ((L : Nat) : Int)) ∧ Below w.heap.size w w')) (w : World) :
    Calls Try.prog 55 #[.agg #[.int .u64 (dgl (n) 0 : Nat), .int .u64 (dgl (n) 1 : Nat), .int .u64 (dgl (n) 2 : Nat), .int .u64 (dgl (n) 3 : Nat), .int .u64 (dgl (n) 4 : Nat), .int .u64 (dgl (n) 5 : Nat), .int .u64 (dgl (n) 6 : Nat), .int .u64 (dgl (n) 7 : Nat)]] w fun e w' => e = .returned (.bool z) ∧ Below w.heap.size w w' := by
  have HS : Hid (LiesF (w.alloc (.cells #[.int .u64 (dgl (n) 0 : Nat), .int .u64 (dgl (n) 1 : Nat), .int .u64 (dgl (n) 2 : Nat), .int .u64 (dgl (n) 3 : Nat), .int .u64 (dgl (n) 4 : Nat), .int .u64 (dgl (n) 5 : Nat), .int .u64 (dgl (n) 6 : Nat), .int .u64 (dgl (n) 7 : Nat)] 24)) w.heap.size (dgl n) ∧ Below w.heap.size w (w.alloc (.cells #[.int .u64 (dgl (n) 0 : Nat), .int .u64 (dgl (n) 1 : Nat), .int .u64 (dgl (n) 2 : Nat), .int .u64 (dgl (n) 3 : Nat), .int .u64 (dgl (n) 4 : Nat), .int .u64 (dgl (n) 5 : Nat), .int .u64 (dgl (n) 6 : Nat), .int .u64 (dgl (n) 7 : Nat)] 24))) := ⟨liesF_new w (dgl n) _, below_allocs w _⟩
  have HZ := hide hz
  clear hz
  go_enter Try.func55, Try.ntmps55
  have hca := HS.out.1.1
  go_wp2_with fail
  refine (HLN.out _).mono ?_
  rintro e w1 ⟨rfl, hb1⟩
  have HB := hide (below_trans HS.out.2 hb1)
  clear HS hb1 hca
  go_wp2
  go_ret
  exact ⟨ret_bool HZ.out, HB.out⟩
theorem beyond_any (n : Nat) (hn : n < QQ) (w : World) : Calls Try.prog 55 #[.agg #[.int .u64 (dgl (n) 0 : Nat), .int .u64 (dgl (n) 1 : Nat), .int .u64 (dgl (n) 2 : Nat), .int .u64 (dgl (n) 3 : Nat), .int .u64 (dgl (n) 4 : Nat), .int .u64 (dgl (n) 5 : Nat), .int .u64 (dgl (n) 6 : Nat), .int .u64 (dgl (n) 7 : Nat)]] w fun e w' => e = .returned (.bool (!decide (n < 2 ^ 256))) ∧ Below w.heap.size w w' := by
  refine beyond_walk n _ _ ?_ (fun w => wideLen_any n hn w) w
  have h := bitLen_above n 256
  rw [← decide_not, decide_eq_decide]
  generalize 2 ^ 256 = P at *
  omega

set_option maxHeartbeats 2000000 in
theorem proot_E (n : Nat) (HBY : Hid (∀ w, Calls Try.prog 55 #[.agg #[.int .u64 (dgl (n) 0 : Nat), .int .u64 (dgl (n) 1 : Nat), .int .u64 (dgl (n) 2 : Nat), .int .u64 (dgl (n) 3 : Nat), .int .u64 (dgl (n) 4 : Nat), .int .u64 (dgl (n) 5 : Nat), .int .u64 (dgl (n) 6 : Nat), .int .u64 (dgl (n) 7 : Nat)]] w fun e w' => e = .returned (.bool true) ∧ Below w.heap.size w w')) (w : World) :
    Calls Try.prog 32 #[.agg #[.int .u64 (dgl (n) 0 : Nat), .int .u64 (dgl (n) 1 : Nat), .int .u64 (dgl (n) 2 : Nat), .int .u64 (dgl (n) 3 : Nat), .int .u64 (dgl (n) 4 : Nat), .int .u64 (dgl (n) 5 : Nat), .int .u64 (dgl (n) 6 : Nat), .int .u64 (dgl (n) 7 : Nat)]] w fun e' w' => e' = .returned (.tuple #[.agg #[.int .u64 0, .int .u64 0, .int .u64 0, .int .u64 0, .int .u64 0, .int .u64 0, .int .u64 0, .int .u64 0], .agg #[.int .u64 0, .int .u64 0, .int .u64 0, .int .u64 0, .int .u64 0, .int .u64 0, .int .u64 0, .int .u64 0], .int .i64 4]) ∧ Below w.heap.size w w' := by
  have HS := hide (rroot_start n w 24 24 24)
  go_enter Try.func32, Try.ntmps32
  have hca := HS.out.1.1
  go_wp2_with fail
  refine (HBY.out _).mono ?_
  rintro e' w1 ⟨rfl, hb1⟩
  replace HS := hide (HS.out.2.below hb1)
  clear hb1 hca
  have hr1 := HS.out.lx.1
  have hrl1 := HS.out.lx.2
  have hrf1 := HS.out.fx
  have hr2 := HS.out.ly.1
  have hrl2 := HS.out.ly.2
  have hrf2 := HS.out.fy
  have HBE := hide HS.out.bel
  clear HS
  go_wp2
  exact bodyPost_ret (v := .tuple #[.agg #[.int .u64 0, .int .u64 0, .int .u64 0, .int .u64 0, .int .u64 0, .int .u64 0, .int .u64 0, .int .u64 0], .agg #[.int .u64 0, .int .u64 0, .int .u64 0, .int .u64 0, .int .u64 0, .int .u64 0, .int .u64 0, .int .u64 0], .int .i64 4]) (by simp [results, Try.results32, go_sem, hr1, hrl1, hr2, hrl2]) rfl ⟨rfl, below_set8 (below_set8 HBE.out _ (by omega) _ _ _ _ _ _ _ _) _ (by omega) _ _ _ _ _ _ _ _⟩

set_option maxHeartbeats 4000000 in
theorem proot_Y (n S r : Nat) (HBY : Hid (∀ w, Calls Try.prog 55 #[.agg #[.int .u64 (dgl (n) 0 : Nat), .int .u64 (dgl (n) 1 : Nat), .int .u64 (dgl (n) 2 : Nat), .int .u64 (dgl (n) 3 : Nat), .int .u64 (dgl (n) 4 : Nat), .int .u64 (dgl (n) 5 : Nat), .int .u64 (dgl (n) 6 : Nat), .int .u64 (dgl (n) 7 : Nat)]] w fun e w' => e = .returned (.bool false) ∧ Below w.heap.size w w'))
    (HSE : Hid (∀ w, Calls Try.prog 56 #[.agg #[.int .u64 (dgl (n) 0 : Nat), .int .u64 (dgl (n) 1 : Nat), .int .u64 (dgl (n) 2 : Nat), .int .u64 (dgl (n) 3 : Nat), .int .u64 (dgl (n) 4 : Nat), .int .u64 (dgl (n) 5 : Nat), .int .u64 (dgl (n) 6 : Nat), .int .u64 (dgl (n) 7 : Nat)], .int .i64 128, .func (.func 57) #[] #[]] w fun e w' => e = .returned (.tuple #[.agg #[.int .u64 (dgl (S) 0 : Nat), .int .u64 (dgl (S) 1 : Nat), .int .u64 (dgl (S) 2 : Nat), .int .u64 (dgl (S) 3 : Nat), .int .u64 (dgl (S) 4 : Nat), .int .u64 (dgl (S) 5 : Nat), .int .u64 (dgl (S) 6 : Nat), .int .u64 (dgl (S) 7 : Nat)], .agg #[.int .u64 (dgl (r) 0 : Nat), .int .u64 (dgl (r) 1 : Nat), .int .u64 (dgl (r) 2 : Nat), .int .u64 (dgl (r) 3 : Nat), .int .u64 (dgl (r) 4 : Nat), .int .u64 (dgl (r) 5 : Nat), .int .u64 (dgl (r) 6 : Nat), .int .u64 (dgl (r) 7 : Nat)]]) ∧ Below w.heap.size w w')) (w : World) :
    Calls Try.prog 32 #[.agg #[.int .u64 (dgl (n) 0 : Nat), .int .u64 (dgl (n) 1 : Nat), .int .u64 (dgl (n) 2 : Nat), .int .u64 (dgl (n) 3 : Nat), .int .u64 (dgl (n) 4 : Nat), .int .u64 (dgl (n) 5 : Nat), .int .u64 (dgl (n) 6 : Nat), .int .u64 (dgl (n) 7 : Nat)]] w fun e' w' => e' = .returned (.tuple #[.agg #[.int .u64 (dgl (S) 0 : Nat), .int .u64 (dgl (S) 1 : Nat), .int .u64 (dgl (S) 2 : Nat), .int .u64 (dgl (S) 3 : Nat), .int .u64 (dgl (S) 4 : Nat), .int .u64 (dgl (S) 5 : Nat), .int .u64 (dgl (S) 6 : Nat), .int .u64 (dgl (S) 7 : Nat)], .agg #[.int .u64 (dgl (r) 0 : Nat), .int .u64 (dgl (r) 1 : Nat), .int .u64 (dgl (r) 2 : Nat), .int .u64 (dgl (r) 3 : Nat), .int .u64 (dgl (r) 4 : Nat), .int .u64 (dgl (r) 5 : Nat), .int .u64 (dgl (r) 6 : Nat), .int .u64 (dgl (r) 7 : Nat)], .int .i64 0]) ∧ Below w.heap.size w w' := by
  have HS := hide (rroot_start n w 24 24 24)
  go_enter Try.func32, Try.ntmps32
  have hca := HS.out.1.1
  go_wp2_with fail
  refine (HBY.out _).mono ?_
  rintro e' w1 ⟨rfl, hb1⟩
  replace HS := hide (show LiesF w1 w.heap.size (dgl n) ∧ R2St (w.heap.size + 1) (w.heap.size + 2) 0 0 w w1 from ⟨HS.out.1.below hb1, HS.out.2.below hb1⟩)
  clear hb1 hca
  have hca := HS.out.1.1
  go_wp2_with fail
  refine (HSE.out _).mono ?_
  rintro e' w2 ⟨rfl, hb2⟩
  replace HS := hide (HS.out.2.below hb2)
  clear hb2 hca
  go_upto_region 4 with fail
  have hbw := below_trans (below_allocs w2 (.cells #[.int .u64 (dgl (S) 0 : Nat), .int .u64 (dgl (S) 1 : Nat), .int .u64 (dgl (S) 2 : Nat), .int .u64 (dgl (S) 3 : Nat), .int .u64 (dgl (S) 4 : Nat), .int .u64 (dgl (S) 5 : Nat), .int .u64 (dgl (S) 6 : Nat), .int .u64 (dgl (S) 7 : Nat)] 24)) (below_allocs _ (.cells #[.int .u64 (dgl (r) 0 : Nat), .int .u64 (dgl (r) 1 : Nat), .int .u64 (dgl (r) 2 : Nat), .int .u64 (dgl (r) 3 : Nat), .int .u64 (dgl (r) 4 : Nat), .int .u64 (dgl (r) 5 : Nat), .int .u64 (dgl (r) 6 : Nat), .int .u64 (dgl (r) 7 : Nat)] 24))
  refine wp_gen (fun W => R2St (w.heap.size + 1) (w.heap.size + 2) 0 0 w W ∧ R2St w2.heap.size (w2.heap.size + 1) S r w W) ⟨HS.out.below hbw, r2_put w w2 S r HS.out.bel _ _⟩ ?_
  have HNE := hide (show w.heap.size + 2 < w2.heap.size ∧ w.heap.size + 2 < w2.heap.size + 1 from ⟨HS.out.ly.2, Nat.lt_succ_of_lt HS.out.ly.2⟩)
  clear HS hbw
  obtain ⟨p6, hp6⟩ : ∃ p6, w2.heap.size + 1 = p6 := ⟨_, rfl⟩
  rw [hp6] at HNE ⊢
  clear hp6
  generalize w2.heap.size = p5 at *
  rintro W5 h5
  have HS5 := hide (show R2St (w.heap.size + 1) (w.heap.size + 2) 0 0 w W5 ∧ LiesF W5 p5 (dgl S) ∧ LiesF W5 p6 (dgl r) from ⟨h5.1, h5.2.lx, h5.2.ly⟩)
  clear h5
  refine wp_region_storeK 5 [2, 3] [16, 17, 4] (fun bs => [(16, .val (.agg #[.int .u64 (dgl (S) 0 : Nat), .int .u64 (dgl (S) 1 : Nat), .int .u64 (dgl (S) 2 : Nat), .int .u64 (dgl (S) 3 : Nat), .int .u64 (dgl (S) 4 : Nat), .int .u64 (dgl (S) 5 : Nat), .int .u64 (dgl (S) 6 : Nat), .int .u64 (dgl (S) 7 : Nat)])), (17, .val (.agg #[.int .u64 (dgl (r) 0 : Nat), .int .u64 (dgl (r) 1 : Nat), .int .u64 (dgl (r) 2 : Nat), .int .u64 (dgl (r) 3 : Nat), .int .u64 (dgl (r) 4 : Nat), .int .u64 (dgl (r) 5 : Nat), .int .u64 (dgl (r) 6 : Nat), .int .u64 (dgl (r) 7 : Nat)])), (4, .val (.int .i64 0))])
    (fun bs W => (∀ c e, bs.headD false = c → bs.tail.headD false = e → R2St (w.heap.size + 1) (w.heap.size + 2) (bif c then S else 0) (bif e then r else 0) w W) ∧ LiesF W p5 (dgl (S)) ∧ LiesF W p6 (dgl (r))) (fun bs => rfl) mixedOk (by kernel_rfl) (by kernel_rfl) (by kernel_rfl) (⟨fun c e hc he => by subst hc; subst he; exact (HS5.out).1.below (Below.refl _ _).drew, (HS5.out).2.1.below (Below.refl _ _).drew, (HS5.out).2.2.below (Below.refl _ _).drew⟩) (fun bs W W' h hb => ⟨fun c e hc he => (h.1 c e hc he).below hb, h.2.1.below hb, h.2.2.below hb⟩) ?_ ?_
  · refine kSt rfl (fun φ hφ => gStep_run rfl ?_) ?_
    · intro ρ W hC hc hf hL
      have e5 : ρ (.tmp 5) = .pointer (some ⟨p5, 0, none⟩) := hL 5 (by decide +kernel)
      have hl := hC.2.1.1
      simp [go_sem, hc, hf, e5, hl]
      exact ⟨Below.refl _ _, rfl⟩
    refine kSt rfl (fun φ hφ => gStep_run rfl ?_) ?_
    · intro ρ W hC hc hf hL
      have e6 : ρ (.tmp 6) = .pointer (some ⟨p6, 0, none⟩) := hL 6 (by decide +kernel)
      have hl := hC.2.2.1
      simp [go_sem, hc, hf, e6, hl]
      exact ⟨Below.refl _ _, rfl⟩
    refine kStS rfl ⟨rfl, rfl, ?_⟩ ?_
    · intro φ ρ W hφ hC hc hL
      have e2 : ρ (.tmp 2) = .pointer (some ⟨w.heap.size + 1, 0, none⟩) := hL 2 (by decide +kernel)
      have e16 : ρ (.tmp 16) = .agg #[.int .u64 (dgl (S) 0 : Nat), .int .u64 (dgl (S) 1 : Nat), .int .u64 (dgl (S) 2 : Nat), .int .u64 (dgl (S) 3 : Nat), .int .u64 (dgl (S) 4 : Nat), .int .u64 (dgl (S) 5 : Nat), .int .u64 (dgl (S) 6 : Nat), .int .u64 (dgl (S) 7 : Nat)] := hL 16 (by decide +kernel)
      have g : R2St (w.heap.size + 1) (w.heap.size + 2) 0 (bif φ 3 then r else 0) w W := hC.1 false (φ 3) (by simp [hφ]) rfl
      have hz := g.lx.1
      have hzl := g.lx.2
      have hzf := g.fx
      have hne := HNE.out
      refine gUpon_of ((((((((W.setCell ⟨w.heap.size + 1, 0, none⟩ (.int .u64 (dgl (S) 0 : Nat))).setCell ⟨w.heap.size + 1, 1, none⟩ (.int .u64 (dgl (S) 1 : Nat))).setCell ⟨w.heap.size + 1, 2, none⟩ (.int .u64 (dgl (S) 2 : Nat))).setCell ⟨w.heap.size + 1, 3, none⟩ (.int .u64 (dgl (S) 3 : Nat))).setCell ⟨w.heap.size + 1, 4, none⟩ (.int .u64 (dgl (S) 4 : Nat))).setCell ⟨w.heap.size + 1, 5, none⟩ (.int .u64 (dgl (S) 5 : Nat))).setCell ⟨w.heap.size + 1, 6, none⟩ (.int .u64 (dgl (S) 6 : Nat))).setCell ⟨w.heap.size + 1, 7, none⟩ (.int .u64 (dgl (S) 7 : Nat))) ?_ (fun _ => ?_)
      · simp [go_sem, hc, e2, e16, hz, hzl, hzf, gUpon]
      refine ⟨⟨fun c e hc he => ?_, lies_ne hC.2.1 (by omega), lies_ne hC.2.2 (by omega)⟩, fun t => ?_⟩
      · have hc1 : c = true := by rw [← hc]; simp
        have he1 : e = (φ 3) := by rw [← he]; simp
        subst hc1
        subst he1
        exact g.set1 _
      refine (tbl_imp rfl (fun _ => val_imp) (tbl_imp rfl (fun _ => val_imp) (tbl_imp rfl (fun _ => val_imp) tbl_nil_imp)))
    refine kStS rfl ⟨rfl, rfl, ?_⟩ ?_
    · intro φ ρ W hφ hC hc hL
      have e3 : ρ (.tmp 3) = .pointer (some ⟨w.heap.size + 2, 0, none⟩) := hL 3 (by decide +kernel)
      have e17 : ρ (.tmp 17) = .agg #[.int .u64 (dgl (r) 0 : Nat), .int .u64 (dgl (r) 1 : Nat), .int .u64 (dgl (r) 2 : Nat), .int .u64 (dgl (r) 3 : Nat), .int .u64 (dgl (r) 4 : Nat), .int .u64 (dgl (r) 5 : Nat), .int .u64 (dgl (r) 6 : Nat), .int .u64 (dgl (r) 7 : Nat)] := hL 17 (by decide +kernel)
      have g : R2St (w.heap.size + 1) (w.heap.size + 2) (bif φ 2 then S else 0) 0 w W := hC.1 (φ 2) false rfl (by simp [hφ])
      have hz := g.ly.1
      have hzl := g.ly.2
      have hzf := g.fy
      have hne := HNE.out
      refine gUpon_of ((((((((W.setCell ⟨w.heap.size + 2, 0, none⟩ (.int .u64 (dgl (r) 0 : Nat))).setCell ⟨w.heap.size + 2, 1, none⟩ (.int .u64 (dgl (r) 1 : Nat))).setCell ⟨w.heap.size + 2, 2, none⟩ (.int .u64 (dgl (r) 2 : Nat))).setCell ⟨w.heap.size + 2, 3, none⟩ (.int .u64 (dgl (r) 3 : Nat))).setCell ⟨w.heap.size + 2, 4, none⟩ (.int .u64 (dgl (r) 4 : Nat))).setCell ⟨w.heap.size + 2, 5, none⟩ (.int .u64 (dgl (r) 5 : Nat))).setCell ⟨w.heap.size + 2, 6, none⟩ (.int .u64 (dgl (r) 6 : Nat))).setCell ⟨w.heap.size + 2, 7, none⟩ (.int .u64 (dgl (r) 7 : Nat))) ?_ (fun _ => ?_)
      · simp [go_sem, hc, e3, e17, hz, hzl, hzf, gUpon]
      refine ⟨⟨fun c e hc he => ?_, lies_ne hC.2.1 (by omega), lies_ne hC.2.2 (by omega)⟩, fun t => ?_⟩
      · have hc1 : c = (φ 2) := by rw [← hc]; simp
        have he1 : e = true := by rw [← he]; simp
        subst hc1
        subst he1
        exact g.set2 _
      refine (tbl_imp rfl (fun _ => val_imp) (tbl_imp rfl (fun _ => val_imp) (tbl_imp rfl (fun _ => val_imp) tbl_nil_imp)))
    refine kSt rfl (fun φ hφ => gStep_run rfl (gRun_const _ 4 (.inr rfl) rfl (fun w => rfl))) ?_
    exact kSt0
  · intro W hC
    refine gFi 16 rfl ?_
    rintro _ rfl
    refine gFi 17 rfl ?_
    rintro _ rfl
    refine gFiN rfl ?_
    refine gFiN rfl ?_
    refine gFi 4 rfl ?_
    rintro _ rfl
    refine gFi0 ?_
    simp only [List.drop_succ_cons, List.drop_zero, Act.put, List.setIfInBounds_toArray, List.set_cons_succ, List.set_cons_zero]
    have HS := hide (hC.1 true true rfl rfl)
    clear hC
    have hr1 := HS.out.lx.1
    have hrl1 := HS.out.lx.2
    have hrf1 := HS.out.fx
    have hr2 := HS.out.ly.1
    have hrl2 := HS.out.ly.2
    have hrf2 := HS.out.fy
    have HBE := hide HS.out.bel
    have HO1 := hide HS.out.o1
    have HO2 := hide HS.out.o2
    clear HS
    go_wp2
    exact bodyPost_ret (v := .tuple #[.agg #[.int .u64 (dgl (S) 0 : Nat), .int .u64 (dgl (S) 1 : Nat), .int .u64 (dgl (S) 2 : Nat), .int .u64 (dgl (S) 3 : Nat), .int .u64 (dgl (S) 4 : Nat), .int .u64 (dgl (S) 5 : Nat), .int .u64 (dgl (S) 6 : Nat), .int .u64 (dgl (S) 7 : Nat)], .agg #[.int .u64 (dgl (r) 0 : Nat), .int .u64 (dgl (r) 1 : Nat), .int .u64 (dgl (r) 2 : Nat), .int .u64 (dgl (r) 3 : Nat), .int .u64 (dgl (r) 4 : Nat), .int .u64 (dgl (r) 5 : Nat), .int .u64 (dgl (r) 6 : Nat), .int .u64 (dgl (r) 7 : Nat)], .int .i64 0]) (by simp [results, Try.results32, go_sem, hr1, hrl1, hr2, hrl2]) rfl ⟨rfl, HBE.out⟩
    

set_option maxHeartbeats 2000000 in
theorem pcube_E (n : Nat) (HBY : Hid (∀ w, Calls Try.prog 55 #[.agg #[.int .u64 (dgl (n) 0 : Nat), .int .u64 (dgl (n) 1 : Nat), .int .u64 (dgl (n) 2 : Nat), .int .u64 (dgl (n) 3 : Nat), .int .u64 (dgl (n) 4 : Nat), .int .u64 (dgl (n) 5 : Nat), .int .u64 (dgl (n) 6 : Nat), .int .u64 (dgl (n) 7 : Nat)]] w fun e w' => e = .returned (.bool true) ∧ Below w.heap.size w w')) (w : World) :
    Calls Try.prog 39 #[.agg #[.int .u64 (dgl (n) 0 : Nat), .int .u64 (dgl (n) 1 : Nat), .int .u64 (dgl (n) 2 : Nat), .int .u64 (dgl (n) 3 : Nat), .int .u64 (dgl (n) 4 : Nat), .int .u64 (dgl (n) 5 : Nat), .int .u64 (dgl (n) 6 : Nat), .int .u64 (dgl (n) 7 : Nat)]] w fun e' w' => e' = .returned (.tuple #[.agg #[.int .u64 0, .int .u64 0, .int .u64 0, .int .u64 0, .int .u64 0, .int .u64 0, .int .u64 0, .int .u64 0], .agg #[.int .u64 0, .int .u64 0, .int .u64 0, .int .u64 0, .int .u64 0, .int .u64 0, .int .u64 0, .int .u64 0], .int .i64 4]) ∧ Below w.heap.size w w' := by
  have HS := hide (rroot_start n w 24 24 24)
  go_enter Try.func39, Try.ntmps39
  have hca := HS.out.1.1
  go_wp2_with fail
  refine (HBY.out _).mono ?_
  rintro e' w1 ⟨rfl, hb1⟩
  replace HS := hide (HS.out.2.below hb1)
  clear hb1 hca
  have hr1 := HS.out.lx.1
  have hrl1 := HS.out.lx.2
  have hrf1 := HS.out.fx
  have hr2 := HS.out.ly.1
  have hrl2 := HS.out.ly.2
  have hrf2 := HS.out.fy
  have HBE := hide HS.out.bel
  clear HS
  go_wp2
  exact bodyPost_ret (v := .tuple #[.agg #[.int .u64 0, .int .u64 0, .int .u64 0, .int .u64 0, .int .u64 0, .int .u64 0, .int .u64 0, .int .u64 0], .agg #[.int .u64 0, .int .u64 0, .int .u64 0, .int .u64 0, .int .u64 0, .int .u64 0, .int .u64 0, .int .u64 0], .int .i64 4]) (by simp [results, Try.results39, go_sem, hr1, hrl1, hr2, hrl2]) rfl ⟨rfl, below_set8 (below_set8 HBE.out _ (by omega) _ _ _ _ _ _ _ _) _ (by omega) _ _ _ _ _ _ _ _⟩

set_option maxHeartbeats 4000000 in
theorem pcube_Y (n S r : Nat) (HBY : Hid (∀ w, Calls Try.prog 55 #[.agg #[.int .u64 (dgl (n) 0 : Nat), .int .u64 (dgl (n) 1 : Nat), .int .u64 (dgl (n) 2 : Nat), .int .u64 (dgl (n) 3 : Nat), .int .u64 (dgl (n) 4 : Nat), .int .u64 (dgl (n) 5 : Nat), .int .u64 (dgl (n) 6 : Nat), .int .u64 (dgl (n) 7 : Nat)]] w fun e w' => e = .returned (.bool false) ∧ Below w.heap.size w w'))
    (HSE : Hid (∀ w, Calls Try.prog 56 #[.agg #[.int .u64 (dgl (n) 0 : Nat), .int .u64 (dgl (n) 1 : Nat), .int .u64 (dgl (n) 2 : Nat), .int .u64 (dgl (n) 3 : Nat), .int .u64 (dgl (n) 4 : Nat), .int .u64 (dgl (n) 5 : Nat), .int .u64 (dgl (n) 6 : Nat), .int .u64 (dgl (n) 7 : Nat)], .int .i64 86, .func (.func 62) #[] #[]] w fun e w' => e = .returned (.tuple #[.agg #[.int .u64 (dgl (S) 0 : Nat), .int .u64 (dgl (S) 1 : Nat), .int .u64 (dgl (S) 2 : Nat), .int .u64 (dgl (S) 3 : Nat), .int .u64 (dgl (S) 4 : Nat), .int .u64 (dgl (S) 5 : Nat), .int .u64 (dgl (S) 6 : Nat), .int .u64 (dgl (S) 7 : Nat)], .agg #[.int .u64 (dgl (r) 0 : Nat), .int .u64 (dgl (r) 1 : Nat), .int .u64 (dgl (r) 2 : Nat), .int .u64 (dgl (r) 3 : Nat), .int .u64 (dgl (r) 4 : Nat), .int .u64 (dgl (r) 5 : Nat), .int .u64 (dgl (r) 6 : Nat), .int .u64 (dgl (r) 7 : Nat)]]) ∧ Below w.heap.size w w')) (w : World) :
    Calls Try.prog 39 #[.agg #[.int .u64 (dgl (n) 0 : Nat), .int .u64 (dgl (n) 1 : Nat), .int .u64 (dgl (n) 2 : Nat), .int .u64 (dgl (n) 3 : Nat), .int .u64 (dgl (n) 4 : Nat), .int .u64 (dgl (n) 5 : Nat), .int .u64 (dgl (n) 6 : Nat), .int .u64 (dgl (n) 7 : Nat)]] w fun e' w' => e' = .returned (.tuple #[.agg #[.int .u64 (dgl (S) 0 : Nat), .int .u64 (dgl (S) 1 : Nat), .int .u64 (dgl (S) 2 : Nat), .int .u64 (dgl (S) 3 : Nat), .int .u64 (dgl (S) 4 : Nat), .int .u64 (dgl (S) 5 : Nat), .int .u64 (dgl (S) 6 : Nat), .int .u64 (dgl (S) 7 : Nat)], .agg #[.int .u64 (dgl (r) 0 : Nat), .int .u64 (dgl (r) 1 : Nat), .int .u64 (dgl (r) 2 : Nat), .int .u64 (dgl (r) 3 : Nat), .int .u64 (dgl (r) 4 : Nat), .int .u64 (dgl (r) 5 : Nat), .int .u64 (dgl (r) 6 : Nat), .int .u64 (dgl (r) 7 : Nat)], .int .i64 0]) ∧ Below w.heap.size w w' := by
  have HS := hide (rroot_start n w 24 24 24)
  go_enter Try.func39, Try.ntmps39
  have hca := HS.out.1.1
  go_wp2_with fail
  refine (HBY.out _).mono ?_
  rintro e' w1 ⟨rfl, hb1⟩
  replace HS := hide (show LiesF w1 w.heap.size (dgl n) ∧ R2St (w.heap.size + 1) (w.heap.size + 2) 0 0 w w1 from ⟨HS.out.1.below hb1, HS.out.2.below hb1⟩)
  clear hb1 hca
  have hca := HS.out.1.1
  go_wp2_with fail
  refine (HSE.out _).mono ?_
  rintro e' w2 ⟨rfl, hb2⟩
  replace HS := hide (HS.out.2.below hb2)
  clear hb2 hca
  go_upto_region 4 with fail
  have hbw := below_trans (below_allocs w2 (.cells #[.int .u64 (dgl (S) 0 : Nat), .int .u64 (dgl (S) 1 : Nat), .int .u64 (dgl (S) 2 : Nat), .int .u64 (dgl (S) 3 : Nat), .int .u64 (dgl (S) 4 : Nat), .int .u64 (dgl (S) 5 : Nat), .int .u64 (dgl (S) 6 : Nat), .int .u64 (dgl (S) 7 : Nat)] 24)) (below_allocs _ (.cells #[.int .u64 (dgl (r) 0 : Nat), .int .u64 (dgl (r) 1 : Nat), .int .u64 (dgl (r) 2 : Nat), .int .u64 (dgl (r) 3 : Nat), .int .u64 (dgl (r) 4 : Nat), .int .u64 (dgl (r) 5 : Nat), .int .u64 (dgl (r) 6 : Nat), .int .u64 (dgl (r) 7 : Nat)] 24))
  refine wp_gen (fun W => R2St (w.heap.size + 1) (w.heap.size + 2) 0 0 w W ∧ R2St w2.heap.size (w2.heap.size + 1) S r w W) ⟨HS.out.below hbw, r2_put w w2 S r HS.out.bel _ _⟩ ?_
  have HNE := hide (show w.heap.size + 2 < w2.heap.size ∧ w.heap.size + 2 < w2.heap.size + 1 from ⟨HS.out.ly.2, Nat.lt_succ_of_lt HS.out.ly.2⟩)
  clear HS hbw
  obtain ⟨p6, hp6⟩ : ∃ p6, w2.heap.size + 1 = p6 := ⟨_, rfl⟩
  rw [hp6] at HNE ⊢
  clear hp6
  generalize w2.heap.size = p5 at *
  rintro W5 h5
  have HS5 := hide (show R2St (w.heap.size + 1) (w.heap.size + 2) 0 0 w W5 ∧ LiesF W5 p5 (dgl S) ∧ LiesF W5 p6 (dgl r) from ⟨h5.1, h5.2.lx, h5.2.ly⟩)
  clear h5
  refine wp_region_storeK 5 [2, 3] [16, 17, 4] (fun bs => [(16, .val (.agg #[.int .u64 (dgl (S) 0 : Nat), .int .u64 (dgl (S) 1 : Nat), .int .u64 (dgl (S) 2 : Nat), .int .u64 (dgl (S) 3 : Nat), .int .u64 (dgl (S) 4 : Nat), .int .u64 (dgl (S) 5 : Nat), .int .u64 (dgl (S) 6 : Nat), .int .u64 (dgl (S) 7 : Nat)])), (17, .val (.agg #[.int .u64 (dgl (r) 0 : Nat), .int .u64 (dgl (r) 1 : Nat), .int .u64 (dgl (r) 2 : Nat), .int .u64 (dgl (r) 3 : Nat), .int .u64 (dgl (r) 4 : Nat), .int .u64 (dgl (r) 5 : Nat), .int .u64 (dgl (r) 6 : Nat), .int .u64 (dgl (r) 7 : Nat)])), (4, .val (.int .i64 0))])
    (fun bs W => (∀ c e, bs.headD false = c → bs.tail.headD false = e → R2St (w.heap.size + 1) (w.heap.size + 2) (bif c then S else 0) (bif e then r else 0) w W) ∧ LiesF W p5 (dgl (S)) ∧ LiesF W p6 (dgl (r))) (fun bs => rfl) mixedOk (by kernel_rfl) (by kernel_rfl) (by kernel_rfl) (⟨fun c e hc he => by subst hc; subst he; exact (HS5.out).1.below (Below.refl _ _).drew, (HS5.out).2.1.below (Below.refl _ _).drew, (HS5.out).2.2.below (Below.refl _ _).drew⟩) (fun bs W W' h hb => ⟨fun c e hc he => (h.1 c e hc he).below hb, h.2.1.below hb, h.2.2.below hb⟩) ?_ ?_
  · refine kSt rfl (fun φ hφ => gStep_run rfl ?_) ?_
    · intro ρ W hC hc hf hL
      have e5 : ρ (.tmp 5) = .pointer (some ⟨p5, 0, none⟩) := hL 5 (by decide +kernel)
      have hl := hC.2.1.1
      simp [go_sem, hc, hf, e5, hl]
      exact ⟨Below.refl _ _, rfl⟩
    refine kSt rfl (fun φ hφ => gStep_run rfl ?_) ?_
    · intro ρ W hC hc hf hL
      have e6 : ρ (.tmp 6) = .pointer (some ⟨p6, 0, none⟩) := hL 6 (by decide +kernel)
      have hl := hC.2.2.1
      simp [go_sem, hc, hf, e6, hl]
      exact ⟨Below.refl _ _, rfl⟩
    refine kStS rfl ⟨rfl, rfl, ?_⟩ ?_
    · intro φ ρ W hφ hC hc hL
      have e2 : ρ (.tmp 2) = .pointer (some ⟨w.heap.size + 1, 0, none⟩) := hL 2 (by decide +kernel)
      have e16 : ρ (.tmp 16) = .agg #[.int .u64 (dgl (S) 0 : Nat), .int .u64 (dgl (S) 1 : Nat), .int .u64 (dgl (S) 2 : Nat), .int .u64 (dgl (S) 3 : Nat), .int .u64 (dgl (S) 4 : Nat), .int .u64 (dgl (S) 5 : Nat), .int .u64 (dgl (S) 6 : Nat), .int .u64 (dgl (S) 7 : Nat)] := hL 16 (by decide +kernel)
      have g : R2St (w.heap.size + 1) (w.heap.size + 2) 0 (bif φ 3 then r else 0) w W := hC.1 false (φ 3) (by simp [hφ]) rfl
      have hz := g.lx.1
      have hzl := g.lx.2
      have hzf := g.fx
      have hne := HNE.out
      refine gUpon_of ((((((((W.setCell ⟨w.heap.size + 1, 0, none⟩ (.int .u64 (dgl (S) 0 : Nat))).setCell ⟨w.heap.size + 1, 1, none⟩ (.int .u64 (dgl (S) 1 : Nat))).setCell ⟨w.heap.size + 1, 2, none⟩ (.int .u64 (dgl (S) 2 : Nat))).setCell ⟨w.heap.size + 1, 3, none⟩ (.int .u64 (dgl (S) 3 : Nat))).setCell ⟨w.heap.size + 1, 4, none⟩ (.int .u64 (dgl (S) 4 : Nat))).setCell ⟨w.heap.size + 1, 5, none⟩ (.int .u64 (dgl (S) 5 : Nat))).setCell ⟨w.heap.size + 1, 6, none⟩ (.int .u64 (dgl (S) 6 : Nat))).setCell ⟨w.heap.size + 1, 7, none⟩ (.int .u64 (dgl (S) 7 : Nat))) ?_ (fun _ => ?_)
      · simp [go_sem, hc, e2, e16, hz, hzl, hzf, gUpon]
      refine ⟨⟨fun c e hc he => ?_, lies_ne hC.2.1 (by omega), lies_ne hC.2.2 (by omega)⟩, fun t => ?_⟩
      · have hc1 : c = true := by rw [← hc]; simp
        have he1 : e = (φ 3) := by rw [← he]; simp
        subst hc1
        subst he1
        exact g.set1 _
      refine (tbl_imp rfl (fun _ => val_imp) (tbl_imp rfl (fun _ => val_imp) (tbl_imp rfl (fun _ => val_imp) tbl_nil_imp)))
    refine kStS rfl ⟨rfl, rfl, ?_⟩ ?_
    · intro φ ρ W hφ hC hc hL
      have e3 : ρ (.tmp 3) = .pointer (some ⟨w.heap.size + 2, 0, none⟩) := hL 3 (by decide +kernel)
      have e17 : ρ (.tmp 17) = .agg #[.int .u64 (dgl (r) 0 : Nat), .int .u64 (dgl (r) 1 : Nat), .int .u64 (dgl (r) 2 : Nat), .int .u64 (dgl (r) 3 : Nat), .int .u64 (dgl (r) 4 : Nat), .int .u64 (dgl (r) 5 : Nat), .int .u64 (dgl (r) 6 : Nat), .int .u64 (dgl (r) 7 : Nat)] := hL 17 (by decide +kernel)
      have g : R2St (w.heap.size + 1) (w.heap.size + 2) (bif φ 2 then S else 0) 0 w W := hC.1 (φ 2) false rfl (by simp [hφ])
      have hz := g.ly.1
      have hzl := g.ly.2
      have hzf := g.fy
      have hne := HNE.out
      refine gUpon_of ((((((((W.setCell ⟨w.heap.size + 2, 0, none⟩ (.int .u64 (dgl (r) 0 : Nat))).setCell ⟨w.heap.size + 2, 1, none⟩ (.int .u64 (dgl (r) 1 : Nat))).setCell ⟨w.heap.size + 2, 2, none⟩ (.int .u64 (dgl (r) 2 : Nat))).setCell ⟨w.heap.size + 2, 3, none⟩ (.int .u64 (dgl (r) 3 : Nat))).setCell ⟨w.heap.size + 2, 4, none⟩ (.int .u64 (dgl (r) 4 : Nat))).setCell ⟨w.heap.size + 2, 5, none⟩ (.int .u64 (dgl (r) 5 : Nat))).setCell ⟨w.heap.size + 2, 6, none⟩ (.int .u64 (dgl (r) 6 : Nat))).setCell ⟨w.heap.size + 2, 7, none⟩ (.int .u64 (dgl (r) 7 : Nat))) ?_ (fun _ => ?_)
      · simp [go_sem, hc, e3, e17, hz, hzl, hzf, gUpon]
      refine ⟨⟨fun c e hc he => ?_, lies_ne hC.2.1 (by omega), lies_ne hC.2.2 (by omega)⟩, fun t => ?_⟩
      · have hc1 : c = (φ 2) := by rw [← hc]; simp
        have he1 : e = true := by rw [← he]; simp
        subst hc1
        subst he1
        exact g.set2 _
      refine (tbl_imp rfl (fun _ => val_imp) (tbl_imp rfl (fun _ => val_imp) (tbl_imp rfl (fun _ => val_imp) tbl_nil_imp)))
    refine kSt rfl (fun φ hφ => gStep_run rfl (gRun_const _ 4 (.inr rfl) rfl (fun w => rfl))) ?_
    exact kSt0
  · intro W hC
    refine gFi 16 rfl ?_
    rintro _ rfl
    refine gFi 17 rfl ?_
    rintro _ rfl
    refine gFiN rfl ?_
    refine gFiN rfl ?_
    refine gFi 4 rfl ?_
    rintro _ rfl
    refine gFi0 ?_
    simp only [List.drop_succ_cons, List.drop_zero, Act.put, List.setIfInBounds_toArray, List.set_cons_succ, List.set_cons_zero]
    have HS := hide (hC.1 true true rfl rfl)
    clear hC
    have hr1 := HS.out.lx.1
    have hrl1 := HS.out.lx.2
    have hrf1 := HS.out.fx
    have hr2 := HS.out.ly.1
    have hrl2 := HS.out.ly.2
    have hrf2 := HS.out.fy
    have HBE := hide HS.out.bel
    have HO1 := hide HS.out.o1
    have HO2 := hide HS.out.o2
    clear HS
    go_wp2
    exact bodyPost_ret (v := .tuple #[.agg #[.int .u64 (dgl (S) 0 : Nat), .int .u64 (dgl (S) 1 : Nat), .int .u64 (dgl (S) 2 : Nat), .int .u64 (dgl (S) 3 : Nat), .int .u64 (dgl (S) 4 : Nat), .int .u64 (dgl (S) 5 : Nat), .int .u64 (dgl (S) 6 : Nat), .int .u64 (dgl (S) 7 : Nat)], .agg #[.int .u64 (dgl (r) 0 : Nat), .int .u64 (dgl (r) 1 : Nat), .int .u64 (dgl (r) 2 : Nat), .int .u64 (dgl (r) 3 : Nat), .int .u64 (dgl (r) 4 : Nat), .int .u64 (dgl (r) 5 : Nat), .int .u64 (dgl (r) 6 : Nat), .int .u64 (dgl (r) 7 : Nat)], .int .i64 0]) (by simp [results, Try.results39, go_sem, hr1, hrl1, hr2, hrl2]) rfl ⟨rfl, HBE.out⟩
    

end Go.Proofs.Ytmbbhagjfgjhgaa

/- Contracts: root2.Root, Cube as numbers; Square, Round. -/
set_option linter.unusedVariables false
set_option linter.unusedSimpArgs false
set_option maxRecDepth 8000
namespace Go.Proofs.Ytmbbhagjfgjhgaa
open Go.RowKit Plain

theorem sq_le (n S : Nat) (hs : ∀ y, y ^ 2 ≤ n ↔ y ≤ S) (hn : n < 2 ^ 256) : S < 2 ^ 128 := root_lt hs (by rw [← Nat.pow_mul]; exact hn)
theorem cb_le (n S : Nat) (hs : ∀ y, y ^ 3 ≤ n ↔ y ≤ S) (hn : n < 2 ^ 256) : S < 2 ^ 86 := by
  have h : ∀ m, 256 ≤ m → n < 2 ^ m := fun m hm => Nat.lt_of_lt_of_le hn (Nat.pow_le_pow_right (by decide) hm)
  refine root_lt hs ?_
  rw [← Nat.pow_mul]
  generalize hm : 86 * 3 = m
  exact h m (by omega)
theorem shl_num (a k : Nat) (ha : a < QQ) (hk : k ≤ 512) (w : World) : Calls Try.prog 48 #[.agg #[.int .u64 (dgl (a) 0 : Nat), .int .u64 (dgl (a) 1 : Nat), .int .u64 (dgl (a) 2 : Nat), .int .u64 (dgl (a) 3 : Nat), .int .u64 (dgl (a) 4 : Nat), .int .u64 (dgl (a) 5 : Nat), .int .u64 (dgl (a) 6 : Nat), .int .u64 (dgl (a) 7 : Nat)], .int .i64 (k : Nat)] w fun e w' => e = .returned (.agg #[.int .u64 (dgl (a * 2 ^ k) 0 : Nat), .int .u64 (dgl (a * 2 ^ k) 1 : Nat), .int .u64 (dgl (a * 2 ^ k) 2 : Nat), .int .u64 (dgl (a * 2 ^ k) 3 : Nat), .int .u64 (dgl (a * 2 ^ k) 4 : Nat), .int .u64 (dgl (a * 2 ^ k) 5 : Nat), .int .u64 (dgl (a * 2 ^ k) 6 : Nat), .int .u64 (dgl (a * 2 ^ k) 7 : Nat)]) ∧ Below w.heap.size w w' := by
  have h := wideShl_any a (k : Nat) ha w
  rw [show roomI (k : Nat) = ((k : Nat) : Int) by unfold roomI; omega, sh_up] at h
  exact h
theorem le_shl (a k : Nat) : a ≤ a * 2 ^ k := Nat.le_mul_of_pos_right a (Nat.two_pow_pos k)
theorem root_ok (n S : Nat) (hn : n < 2 ^ 256) (hs : ∀ y, y ^ 2 ≤ n ↔ y ≤ S) (w : World) :
    Calls Try.prog 32 #[.agg #[.int .u64 (dgl (n) 0 : Nat), .int .u64 (dgl (n) 1 : Nat), .int .u64 (dgl (n) 2 : Nat), .int .u64 (dgl (n) 3 : Nat), .int .u64 (dgl (n) 4 : Nat), .int .u64 (dgl (n) 5 : Nat), .int .u64 (dgl (n) 6 : Nat), .int .u64 (dgl (n) 7 : Nat)]] w fun e w' => e = .returned (.tuple #[.agg #[.int .u64 (dgl (S) 0 : Nat), .int .u64 (dgl (S) 1 : Nat), .int .u64 (dgl (S) 2 : Nat), .int .u64 (dgl (S) 3 : Nat), .int .u64 (dgl (S) 4 : Nat), .int .u64 (dgl (S) 5 : Nat), .int .u64 (dgl (S) 6 : Nat), .int .u64 (dgl (S) 7 : Nat)], .agg #[.int .u64 (dgl (n - S ^ 2) 0 : Nat), .int .u64 (dgl (n - S ^ 2) 1 : Nat), .int .u64 (dgl (n - S ^ 2) 2 : Nat), .int .u64 (dgl (n - S ^ 2) 3 : Nat), .int .u64 (dgl (n - S ^ 2) 4 : Nat), .int .u64 (dgl (n - S ^ 2) 5 : Nat), .int .u64 (dgl (n - S ^ 2) 6 : Nat), .int .u64 (dgl (n - S ^ 2) 7 : Nat)], .int .i64 0]) ∧ Below w.heap.size w w' := by
  have hS := sq_le n S hs hn
  have hnq : n < QQ := Nat.lt_trans hn (by decide +kernel)
  have hgrow : ∀ p, p < 128 → (hiN S (p + 1) + hiN S (p + 1) + 2 ^ p) * 2 ^ p + hiN S (p + 1) ^ 2 = (hiN S (p + 1) + 2 ^ p) ^ 2 := fun p _ => by rw [sq_grow]; omega
  have hGq : ∀ p, p < 128 → (hiN S (p + 1) + hiN S (p + 1) + 2 ^ p) * 2 ^ p < QQ := by
    intro p hp
    have h1 := hiN_fit hS (show p + 1 ≤ 128 from hp)
    have h2 : (hiN S (p + 1) + 2 ^ p) ^ 2 ≤ (2 ^ 128) ^ 2 := Nat.pow_le_pow_left (Nat.le_of_lt h1) 2
    have h3 : (2 ^ 128) ^ 2 < QQ := by decide +kernel
    have h4 := hgrow p hp
    exact Nat.lt_of_le_of_lt (Nat.le_trans (by rw [← h4]; exact Nat.le_add_right _ _) h2) h3
  refine proot_Y n S (n - S ^ 2) (fun w => ?_) (fun w => ?_) w
  · have h := beyond_any n hnq w
    rw [decide_eq_true hn] at h
    exact h
  · refine search_any 57 128 n S _ (fun y => y ^ 2) (fun p => (hiN S (p + 1) + hiN S (p + 1) + 2 ^ p) * 2 ^ p) w rfl hnq (Nat.le_refl _) hS rfl (fun p _ => root_iff hs) (fun c => root_hi hs) hgrow hGq (enters_of Try.func57 (by kernel_rfl) rfl) ?_
    intro p hp w
    have hq := hGq p hp
    have hle := le_shl (hiN S (p + 1) + hiN S (p + 1) + 2 ^ p) p
    have hpw := fun w => power_lt p 512 (qq_pow 512 (by decide)) (by omega) _ rfl rfl w
    have hp2 := Nat.two_pow_pos p
    have hsh : (hiN S (p + 1) + hiN S (p + 1) + 2 ^ p) < QQ → ∀ w, Calls Try.prog 48 #[.agg #[.int .u64 (dgl (hiN S (p + 1) + hiN S (p + 1) + 2 ^ p) 0 : Nat), .int .u64 (dgl (hiN S (p + 1) + hiN S (p + 1) + 2 ^ p) 1 : Nat), .int .u64 (dgl (hiN S (p + 1) + hiN S (p + 1) + 2 ^ p) 2 : Nat), .int .u64 (dgl (hiN S (p + 1) + hiN S (p + 1) + 2 ^ p) 3 : Nat), .int .u64 (dgl (hiN S (p + 1) + hiN S (p + 1) + 2 ^ p) 4 : Nat), .int .u64 (dgl (hiN S (p + 1) + hiN S (p + 1) + 2 ^ p) 5 : Nat), .int .u64 (dgl (hiN S (p + 1) + hiN S (p + 1) + 2 ^ p) 6 : Nat), .int .u64 (dgl (hiN S (p + 1) + hiN S (p + 1) + 2 ^ p) 7 : Nat)], .int .i64 (p : Nat)] w fun e w' => e = .returned (.agg #[.int .u64 (dgl ((hiN S (p + 1) + hiN S (p + 1) + 2 ^ p) * 2 ^ p) 0 : Nat), .int .u64 (dgl ((hiN S (p + 1) + hiN S (p + 1) + 2 ^ p) * 2 ^ p) 1 : Nat), .int .u64 (dgl ((hiN S (p + 1) + hiN S (p + 1) + 2 ^ p) * 2 ^ p) 2 : Nat), .int .u64 (dgl ((hiN S (p + 1) + hiN S (p + 1) + 2 ^ p) * 2 ^ p) 3 : Nat), .int .u64 (dgl ((hiN S (p + 1) + hiN S (p + 1) + 2 ^ p) * 2 ^ p) 4 : Nat), .int .u64 (dgl ((hiN S (p + 1) + hiN S (p + 1) + 2 ^ p) * 2 ^ p) 5 : Nat), .int .u64 (dgl ((hiN S (p + 1) + hiN S (p + 1) + 2 ^ p) * 2 ^ p) 6 : Nat), .int .u64 (dgl ((hiN S (p + 1) + hiN S (p + 1) + 2 ^ p) * 2 ^ p) 7 : Nat)]) ∧ Below w.heap.size w w' := fun h w => shl_num _ p h (by omega) w
    show Calls Try.prog 57 #[.agg #[.int .u64 (dgl (hiN S (p + 1)) 0 : Nat), .int .u64 (dgl (hiN S (p + 1)) 1 : Nat), .int .u64 (dgl (hiN S (p + 1)) 2 : Nat), .int .u64 (dgl (hiN S (p + 1)) 3 : Nat), .int .u64 (dgl (hiN S (p + 1)) 4 : Nat), .int .u64 (dgl (hiN S (p + 1)) 5 : Nat), .int .u64 (dgl (hiN S (p + 1)) 6 : Nat), .int .u64 (dgl (hiN S (p + 1)) 7 : Nat)], .int .i64 (p : Nat)] w fun e w' => e = .returned (.agg #[.int .u64 (dgl ((hiN S (p + 1) + hiN S (p + 1) + 2 ^ p) * 2 ^ p) 0 : Nat), .int .u64 (dgl ((hiN S (p + 1) + hiN S (p + 1) + 2 ^ p) * 2 ^ p) 1 : Nat), .int .u64 (dgl ((hiN S (p + 1) + hiN S (p + 1) + 2 ^ p) * 2 ^ p) 2 : Nat), .int .u64 (dgl ((hiN S (p + 1) + hiN S (p + 1) + 2 ^ p) * 2 ^ p) 3 : Nat), .int .u64 (dgl ((hiN S (p + 1) + hiN S (p + 1) + 2 ^ p) * 2 ^ p) 4 : Nat), .int .u64 (dgl ((hiN S (p + 1) + hiN S (p + 1) + 2 ^ p) * 2 ^ p) 5 : Nat), .int .u64 (dgl ((hiN S (p + 1) + hiN S (p + 1) + 2 ^ p) * 2 ^ p) 6 : Nat), .int .u64 (dgl ((hiN S (p + 1) + hiN S (p + 1) + 2 ^ p) * 2 ^ p) 7 : Nat)]) ∧ Below w.heap.size w w'
    generalize (hiN S (p + 1) + hiN S (p + 1) + 2 ^ p) * 2 ^ p = x at *
    generalize 2 ^ p = P at *
    generalize hiN S (p + 1) = s at *
    exact root1_walk s p P (s + s + P) x hpw (fun v w hv => psum3 s s P (by omega) (by omega) (by omega) v w hv) (hsh (by omega)) w
theorem cube_ok (n S : Nat) (hn : n < 2 ^ 256) (hs : ∀ y, y ^ 3 ≤ n ↔ y ≤ S) (w : World) :
    Calls Try.prog 39 #[.agg #[.int .u64 (dgl (n) 0 : Nat), .int .u64 (dgl (n) 1 : Nat), .int .u64 (dgl (n) 2 : Nat), .int .u64 (dgl (n) 3 : Nat), .int .u64 (dgl (n) 4 : Nat), .int .u64 (dgl (n) 5 : Nat), .int .u64 (dgl (n) 6 : Nat), .int .u64 (dgl (n) 7 : Nat)]] w fun e w' => e = .returned (.tuple #[.agg #[.int .u64 (dgl (S) 0 : Nat), .int .u64 (dgl (S) 1 : Nat), .int .u64 (dgl (S) 2 : Nat), .int .u64 (dgl (S) 3 : Nat), .int .u64 (dgl (S) 4 : Nat), .int .u64 (dgl (S) 5 : Nat), .int .u64 (dgl (S) 6 : Nat), .int .u64 (dgl (S) 7 : Nat)], .agg #[.int .u64 (dgl (n - S ^ 3) 0 : Nat), .int .u64 (dgl (n - S ^ 3) 1 : Nat), .int .u64 (dgl (n - S ^ 3) 2 : Nat), .int .u64 (dgl (n - S ^ 3) 3 : Nat), .int .u64 (dgl (n - S ^ 3) 4 : Nat), .int .u64 (dgl (n - S ^ 3) 5 : Nat), .int .u64 (dgl (n - S ^ 3) 6 : Nat), .int .u64 (dgl (n - S ^ 3) 7 : Nat)], .int .i64 0]) ∧ Below w.heap.size w w' := by
  have hS := cb_le n S hs hn
  have hnq : n < QQ := Nat.lt_trans hn (by decide +kernel)
  have hgrow : ∀ p, p < 86 → (hiN S (p + 1) * (hiN S (p + 1) + 2 ^ p) + hiN S (p + 1) * (hiN S (p + 1) + 2 ^ p) + hiN S (p + 1) * (hiN S (p + 1) + 2 ^ p) + 2 ^ (2 * p)) * 2 ^ p + hiN S (p + 1) ^ 3 = (hiN S (p + 1) + 2 ^ p) ^ 3 := fun p _ => by rw [cb_grow]; omega
  have hGq : ∀ p, p < 86 → (hiN S (p + 1) * (hiN S (p + 1) + 2 ^ p) + hiN S (p + 1) * (hiN S (p + 1) + 2 ^ p) + hiN S (p + 1) * (hiN S (p + 1) + 2 ^ p) + 2 ^ (2 * p)) * 2 ^ p < QQ := by
    intro p hp
    have h1 := hiN_fit hS (show p + 1 ≤ 86 from hp)
    have h2 : (hiN S (p + 1) + 2 ^ p) ^ 3 ≤ (2 ^ 86) ^ 3 := Nat.pow_le_pow_left (Nat.le_of_lt h1) 3
    have h3 : (2 ^ 86) ^ 3 < QQ := by decide +kernel
    have h4 := hgrow p hp
    exact Nat.lt_of_le_of_lt (Nat.le_trans (by rw [← h4]; exact Nat.le_add_right _ _) h2) h3
  have hfit : ∀ p, p < 86 → hiN S (p + 1) + 2 ^ p < QQ := fun p hp => Nat.lt_trans (hiN_fit hS (show p + 1 ≤ 86 from hp)) (by decide +kernel)
  refine pcube_Y n S (n - S ^ 3) (fun w => ?_) (fun w => ?_) w
  · have h := beyond_any n hnq w
    rw [decide_eq_true hn] at h
    exact h
  · refine search_any 62 86 n S _ (fun y => y ^ 3) (fun p => (hiN S (p + 1) * (hiN S (p + 1) + 2 ^ p) + hiN S (p + 1) * (hiN S (p + 1) + 2 ^ p) + hiN S (p + 1) * (hiN S (p + 1) + 2 ^ p) + 2 ^ (2 * p)) * 2 ^ p) w rfl hnq (by decide) hS rfl (fun p _ => root_iff hs) (fun c => root_hi hs) hgrow hGq (enters_of Try.func62 (by kernel_rfl) rfl) ?_
    intro p hp w
    have hq := hGq p hp
    have hft := hfit p hp
    have hle := le_shl (hiN S (p + 1) * (hiN S (p + 1) + 2 ^ p) + hiN S (p + 1) * (hiN S (p + 1) + 2 ^ p) + hiN S (p + 1) * (hiN S (p + 1) + 2 ^ p) + 2 ^ (2 * p)) p
    have hpw := fun w => power_lt p 512 (qq_pow 512 (by decide)) (by omega) _ rfl rfl w
    have hpw2 := fun w => power_lt (2 * p) 512 (qq_pow 512 (by decide)) (by omega) _ rfl rfl w
    have hsh : (hiN S (p + 1) * (hiN S (p + 1) + 2 ^ p) + hiN S (p + 1) * (hiN S (p + 1) + 2 ^ p) + hiN S (p + 1) * (hiN S (p + 1) + 2 ^ p) + 2 ^ (2 * p)) < QQ → ∀ w, Calls Try.prog 48 #[.agg #[.int .u64 (dgl (hiN S (p + 1) * (hiN S (p + 1) + 2 ^ p) + hiN S (p + 1) * (hiN S (p + 1) + 2 ^ p) + hiN S (p + 1) * (hiN S (p + 1) + 2 ^ p) + 2 ^ (2 * p)) 0 : Nat), .int .u64 (dgl (hiN S (p + 1) * (hiN S (p + 1) + 2 ^ p) + hiN S (p + 1) * (hiN S (p + 1) + 2 ^ p) + hiN S (p + 1) * (hiN S (p + 1) + 2 ^ p) + 2 ^ (2 * p)) 1 : Nat), .int .u64 (dgl (hiN S (p + 1) * (hiN S (p + 1) + 2 ^ p) + hiN S (p + 1) * (hiN S (p + 1) + 2 ^ p) + hiN S (p + 1) * (hiN S (p + 1) + 2 ^ p) + 2 ^ (2 * p)) 2 : Nat), .int .u64 (dgl (hiN S (p + 1) * (hiN S (p + 1) + 2 ^ p) + hiN S (p + 1) * (hiN S (p + 1) + 2 ^ p) + hiN S (p + 1) * (hiN S (p + 1) + 2 ^ p) + 2 ^ (2 * p)) 3 : Nat), .int .u64 (dgl (hiN S (p + 1) * (hiN S (p + 1) + 2 ^ p) + hiN S (p + 1) * (hiN S (p + 1) + 2 ^ p) + hiN S (p + 1) * (hiN S (p + 1) + 2 ^ p) + 2 ^ (2 * p)) 4 : Nat), .int .u64 (dgl (hiN S (p + 1) * (hiN S (p + 1) + 2 ^ p) + hiN S (p + 1) * (hiN S (p + 1) + 2 ^ p) + hiN S (p + 1) * (hiN S (p + 1) + 2 ^ p) + 2 ^ (2 * p)) 5 : Nat), .int .u64 (dgl (hiN S (p + 1) * (hiN S (p + 1) + 2 ^ p) + hiN S (p + 1) * (hiN S (p + 1) + 2 ^ p) + hiN S (p + 1) * (hiN S (p + 1) + 2 ^ p) + 2 ^ (2 * p)) 6 : Nat), .int .u64 (dgl (hiN S (p + 1) * (hiN S (p + 1) + 2 ^ p) + hiN S (p + 1) * (hiN S (p + 1) + 2 ^ p) + hiN S (p + 1) * (hiN S (p + 1) + 2 ^ p) + 2 ^ (2 * p)) 7 : Nat)], .int .i64 (p : Nat)] w fun e w' => e = .returned (.agg #[.int .u64 (dgl ((hiN S (p + 1) * (hiN S (p + 1) + 2 ^ p) + hiN S (p + 1) * (hiN S (p + 1) + 2 ^ p) + hiN S (p + 1) * (hiN S (p + 1) + 2 ^ p) + 2 ^ (2 * p)) * 2 ^ p) 0 : Nat), .int .u64 (dgl ((hiN S (p + 1) * (hiN S (p + 1) + 2 ^ p) + hiN S (p + 1) * (hiN S (p + 1) + 2 ^ p) + hiN S (p + 1) * (hiN S (p + 1) + 2 ^ p) + 2 ^ (2 * p)) * 2 ^ p) 1 : Nat), .int .u64 (dgl ((hiN S (p + 1) * (hiN S (p + 1) + 2 ^ p) + hiN S (p + 1) * (hiN S (p + 1) + 2 ^ p) + hiN S (p + 1) * (hiN S (p + 1) + 2 ^ p) + 2 ^ (2 * p)) * 2 ^ p) 2 : Nat), .int .u64 (dgl ((hiN S (p + 1) * (hiN S (p + 1) + 2 ^ p) + hiN S (p + 1) * (hiN S (p + 1) + 2 ^ p) + hiN S (p + 1) * (hiN S (p + 1) + 2 ^ p) + 2 ^ (2 * p)) * 2 ^ p) 3 : Nat), .int .u64 (dgl ((hiN S (p + 1) * (hiN S (p + 1) + 2 ^ p) + hiN S (p + 1) * (hiN S (p + 1) + 2 ^ p) + hiN S (p + 1) * (hiN S (p + 1) + 2 ^ p) + 2 ^ (2 * p)) * 2 ^ p) 4 : Nat), .int .u64 (dgl ((hiN S (p + 1) * (hiN S (p + 1) + 2 ^ p) + hiN S (p + 1) * (hiN S (p + 1) + 2 ^ p) + hiN S (p + 1) * (hiN S (p + 1) + 2 ^ p) + 2 ^ (2 * p)) * 2 ^ p) 5 : Nat), .int .u64 (dgl ((hiN S (p + 1) * (hiN S (p + 1) + 2 ^ p) + hiN S (p + 1) * (hiN S (p + 1) + 2 ^ p) + hiN S (p + 1) * (hiN S (p + 1) + 2 ^ p) + 2 ^ (2 * p)) * 2 ^ p) 6 : Nat), .int .u64 (dgl ((hiN S (p + 1) * (hiN S (p + 1) + 2 ^ p) + hiN S (p + 1) * (hiN S (p + 1) + 2 ^ p) + hiN S (p + 1) * (hiN S (p + 1) + 2 ^ p) + 2 ^ (2 * p)) * 2 ^ p) 7 : Nat)]) ∧ Below w.heap.size w w' := fun h w => shl_num _ p h (by omega) w
    have hw2 : IntKind.i64.wrap (2 * (p : Int)) = ((2 * p : Nat) : Int) := by rw [IntKind.wrap_i64]; omega
    have hmu : hiN S (p + 1) < QQ → ∀ w, Calls Try.prog 63 #[.agg #[.int .u64 (dgl (hiN S (p + 1)) 0 : Nat), .int .u64 (dgl (hiN S (p + 1)) 1 : Nat), .int .u64 (dgl (hiN S (p + 1)) 2 : Nat), .int .u64 (dgl (hiN S (p + 1)) 3 : Nat), .int .u64 (dgl (hiN S (p + 1)) 4 : Nat), .int .u64 (dgl (hiN S (p + 1)) 5 : Nat), .int .u64 (dgl (hiN S (p + 1)) 6 : Nat), .int .u64 (dgl (hiN S (p + 1)) 7 : Nat)], .agg #[.int .u64 (dgl (hiN S (p + 1) + 2 ^ p) 0 : Nat), .int .u64 (dgl (hiN S (p + 1) + 2 ^ p) 1 : Nat), .int .u64 (dgl (hiN S (p + 1) + 2 ^ p) 2 : Nat), .int .u64 (dgl (hiN S (p + 1) + 2 ^ p) 3 : Nat), .int .u64 (dgl (hiN S (p + 1) + 2 ^ p) 4 : Nat), .int .u64 (dgl (hiN S (p + 1) + 2 ^ p) 5 : Nat), .int .u64 (dgl (hiN S (p + 1) + 2 ^ p) 6 : Nat), .int .u64 (dgl (hiN S (p + 1) + 2 ^ p) 7 : Nat)]] w fun e w' => e = .returned (.tuple #[.agg #[.int .u64 (dgl (hiN S (p + 1) * (hiN S (p + 1) + 2 ^ p)) 0 : Nat), .int .u64 (dgl (hiN S (p + 1) * (hiN S (p + 1) + 2 ^ p)) 1 : Nat), .int .u64 (dgl (hiN S (p + 1) * (hiN S (p + 1) + 2 ^ p)) 2 : Nat), .int .u64 (dgl (hiN S (p + 1) * (hiN S (p + 1) + 2 ^ p)) 3 : Nat), .int .u64 (dgl (hiN S (p + 1) * (hiN S (p + 1) + 2 ^ p)) 4 : Nat), .int .u64 (dgl (hiN S (p + 1) * (hiN S (p + 1) + 2 ^ p)) 5 : Nat), .int .u64 (dgl (hiN S (p + 1) * (hiN S (p + 1) + 2 ^ p)) 6 : Nat), .int .u64 (dgl (hiN S (p + 1) * (hiN S (p + 1) + 2 ^ p)) 7 : Nat)], .bool (decide (hiN S (p + 1) * (hiN S (p + 1) + 2 ^ p) < QQ))]) ∧ Below w.heap.size w w' := fun h w => prodMul_any _ _ h hft w
    show Calls Try.prog 62 #[.agg #[.int .u64 (dgl (hiN S (p + 1)) 0 : Nat), .int .u64 (dgl (hiN S (p + 1)) 1 : Nat), .int .u64 (dgl (hiN S (p + 1)) 2 : Nat), .int .u64 (dgl (hiN S (p + 1)) 3 : Nat), .int .u64 (dgl (hiN S (p + 1)) 4 : Nat), .int .u64 (dgl (hiN S (p + 1)) 5 : Nat), .int .u64 (dgl (hiN S (p + 1)) 6 : Nat), .int .u64 (dgl (hiN S (p + 1)) 7 : Nat)], .int .i64 (p : Nat)] w fun e w' => e = .returned (.agg #[.int .u64 (dgl ((hiN S (p + 1) * (hiN S (p + 1) + 2 ^ p) + hiN S (p + 1) * (hiN S (p + 1) + 2 ^ p) + hiN S (p + 1) * (hiN S (p + 1) + 2 ^ p) + 2 ^ (2 * p)) * 2 ^ p) 0 : Nat), .int .u64 (dgl ((hiN S (p + 1) * (hiN S (p + 1) + 2 ^ p) + hiN S (p + 1) * (hiN S (p + 1) + 2 ^ p) + hiN S (p + 1) * (hiN S (p + 1) + 2 ^ p) + 2 ^ (2 * p)) * 2 ^ p) 1 : Nat), .int .u64 (dgl ((hiN S (p + 1) * (hiN S (p + 1) + 2 ^ p) + hiN S (p + 1) * (hiN S (p + 1) + 2 ^ p) + hiN S (p + 1) * (hiN S (p + 1) + 2 ^ p) + 2 ^ (2 * p)) * 2 ^ p) 2 : Nat), .int .u64 (dgl ((hiN S (p + 1) * (hiN S (p + 1) + 2 ^ p) + hiN S (p + 1) * (hiN S (p + 1) + 2 ^ p) + hiN S (p + 1) * (hiN S (p + 1) + 2 ^ p) + 2 ^ (2 * p)) * 2 ^ p) 3 : Nat), .int .u64 (dgl ((hiN S (p + 1) * (hiN S (p + 1) + 2 ^ p) + hiN S (p + 1) * (hiN S (p + 1) + 2 ^ p) + hiN S (p + 1) * (hiN S (p + 1) + 2 ^ p) + 2 ^ (2 * p)) * 2 ^ p) 4 : Nat), .int .u64 (dgl ((hiN S (p + 1) * (hiN S (p + 1) + 2 ^ p) + hiN S (p + 1) * (hiN S (p + 1) + 2 ^ p) + hiN S (p + 1) * (hiN S (p + 1) + 2 ^ p) + 2 ^ (2 * p)) * 2 ^ p) 5 : Nat), .int .u64 (dgl ((hiN S (p + 1) * (hiN S (p + 1) + 2 ^ p) + hiN S (p + 1) * (hiN S (p + 1) + 2 ^ p) + hiN S (p + 1) * (hiN S (p + 1) + 2 ^ p) + 2 ^ (2 * p)) * 2 ^ p) 6 : Nat), .int .u64 (dgl ((hiN S (p + 1) * (hiN S (p + 1) + 2 ^ p) + hiN S (p + 1) * (hiN S (p + 1) + 2 ^ p) + hiN S (p + 1) * (hiN S (p + 1) + 2 ^ p) + 2 ^ (2 * p)) * 2 ^ p) 7 : Nat)]) ∧ Below w.heap.size w w'
    generalize (hiN S (p + 1) * (hiN S (p + 1) + 2 ^ p) + hiN S (p + 1) * (hiN S (p + 1) + 2 ^ p) + hiN S (p + 1) * (hiN S (p + 1) + 2 ^ p) + 2 ^ (2 * p)) * 2 ^ p = x at *
    generalize hiN S (p + 1) * (hiN S (p + 1) + 2 ^ p) = m at *
    generalize 2 ^ (2 * p) = P2 at *
    generalize 2 ^ p = P at *
    generalize hiN S (p + 1) = s at *
    exact cube1_walk s p (2 * p) P P2 (s + P) m (m + m + m + P2) x _ hw2 hpw (fun v w hv => psum2 s P (by omega) (by omega) v w hv) (hmu (by omega)) hpw2 (fun v w hv => psum4 m m m P2 (by omega) (by omega) (by omega) (by omega) v w hv) (hsh (by omega)) w
theorem root_err (n : Nat) (hn : n < QQ) (h : ¬ n < 2 ^ 256) (w : World) : Calls Try.prog 32 #[.agg #[.int .u64 (dgl (n) 0 : Nat), .int .u64 (dgl (n) 1 : Nat), .int .u64 (dgl (n) 2 : Nat), .int .u64 (dgl (n) 3 : Nat), .int .u64 (dgl (n) 4 : Nat), .int .u64 (dgl (n) 5 : Nat), .int .u64 (dgl (n) 6 : Nat), .int .u64 (dgl (n) 7 : Nat)]] w fun e w' => e = .returned (.tuple #[.agg #[.int .u64 0, .int .u64 0, .int .u64 0, .int .u64 0, .int .u64 0, .int .u64 0, .int .u64 0, .int .u64 0], .agg #[.int .u64 0, .int .u64 0, .int .u64 0, .int .u64 0, .int .u64 0, .int .u64 0, .int .u64 0, .int .u64 0], .int .i64 4]) ∧ Below w.heap.size w w' :=
  proot_E n (fun w => by have h2 := beyond_any n hn w; rw [decide_eq_false h] at h2; exact h2) w
theorem cube_err (n : Nat) (hn : n < QQ) (h : ¬ n < 2 ^ 256) (w : World) : Calls Try.prog 39 #[.agg #[.int .u64 (dgl (n) 0 : Nat), .int .u64 (dgl (n) 1 : Nat), .int .u64 (dgl (n) 2 : Nat), .int .u64 (dgl (n) 3 : Nat), .int .u64 (dgl (n) 4 : Nat), .int .u64 (dgl (n) 5 : Nat), .int .u64 (dgl (n) 6 : Nat), .int .u64 (dgl (n) 7 : Nat)]] w fun e w' => e = .returned (.tuple #[.agg #[.int .u64 0, .int .u64 0, .int .u64 0, .int .u64 0, .int .u64 0, .int .u64 0, .int .u64 0, .int .u64 0], .agg #[.int .u64 0, .int .u64 0, .int .u64 0, .int .u64 0, .int .u64 0, .int .u64 0, .int .u64 0, .int .u64 0], .int .i64 4]) ∧ Below w.heap.size w w' :=
  pcube_E n (fun w => by have h2 := beyond_any n hn w; rw [decide_eq_false h] at h2; exact h2) w

set_option maxHeartbeats 1000000 in
theorem square_walk (n x y : Nat) (m : Int) (z : Bool) (hz : ∀ w, (Op.equalIn 10000 24 (.agg #[.int .u64 (dgl (y) 0 : Nat), .int .u64 (dgl (y) 1 : Nat), .int .u64 (dgl (y) 2 : Nat), .int .u64 (dgl (y) 3 : Nat), .int .u64 (dgl (y) 4 : Nat), .int .u64 (dgl (y) 5 : Nat), .int .u64 (dgl (y) 6 : Nat), .int .u64 (dgl (y) 7 : Nat)]) (.agg #[.int .u64 0, .int .u64 0, .int .u64 0, .int .u64 0, .int .u64 0, .int .u64 0, .int .u64 0, .int .u64 0])).run Try.prog w = .ok z w) (HM : m = 0 ∨ m = 4)
    (HRT : Hid (∀ w, Calls Try.prog 32 #[.agg #[.int .u64 (dgl (n) 0 : Nat), .int .u64 (dgl (n) 1 : Nat), .int .u64 (dgl (n) 2 : Nat), .int .u64 (dgl (n) 3 : Nat), .int .u64 (dgl (n) 4 : Nat), .int .u64 (dgl (n) 5 : Nat), .int .u64 (dgl (n) 6 : Nat), .int .u64 (dgl (n) 7 : Nat)]] w fun e w' => e = .returned (.tuple #[.agg #[.int .u64 (dgl (x) 0 : Nat), .int .u64 (dgl (x) 1 : Nat), .int .u64 (dgl (x) 2 : Nat), .int .u64 (dgl (x) 3 : Nat), .int .u64 (dgl (x) 4 : Nat), .int .u64 (dgl (x) 5 : Nat), .int .u64 (dgl (x) 6 : Nat), .int .u64 (dgl (x) 7 : Nat)], .agg #[.int .u64 (dgl (y) 0 : Nat), .int .u64 (dgl (y) 1 : Nat), .int .u64 (dgl (y) 2 : Nat), .int .u64 (dgl (y) 3 : Nat), .int .u64 (dgl (y) 4 : Nat), .int .u64 (dgl (y) 5 : Nat), .int .u64 (dgl (y) 6 : Nat), .int .u64 (dgl (y) 7 : Nat)], .int .i64 m]) ∧ Below w.heap.size w w')) (w : World) :
    Calls Try.prog 34 #[.agg #[.int .u64 (dgl (n) 0 : Nat), .int .u64 (dgl (n) 1 : Nat), .int .u64 (dgl (n) 2 : Nat), .int .u64 (dgl (n) 3 : Nat), .int .u64 (dgl (n) 4 : Nat), .int .u64 (dgl (n) 5 : Nat), .int .u64 (dgl (n) 6 : Nat), .int .u64 (dgl (n) 7 : Nat)]] w fun e w' => e = .returned (.bool (decide (m = 0) && z)) ∧ Below w.heap.size w w' := by
  have HS : Hid (LiesF (w.alloc (.cells #[.int .u64 (dgl (n) 0 : Nat), .int .u64 (dgl (n) 1 : Nat), .int .u64 (dgl (n) 2 : Nat), .int .u64 (dgl (n) 3 : Nat), .int .u64 (dgl (n) 4 : Nat), .int .u64 (dgl (n) 5 : Nat), .int .u64 (dgl (n) 6 : Nat), .int .u64 (dgl (n) 7 : Nat)] 24)) w.heap.size (dgl n) ∧ Below w.heap.size w (w.alloc (.cells #[.int .u64 (dgl (n) 0 : Nat), .int .u64 (dgl (n) 1 : Nat), .int .u64 (dgl (n) 2 : Nat), .int .u64 (dgl (n) 3 : Nat), .int .u64 (dgl (n) 4 : Nat), .int .u64 (dgl (n) 5 : Nat), .int .u64 (dgl (n) 6 : Nat), .int .u64 (dgl (n) 7 : Nat)] 24))) := ⟨liesF_new w (dgl n) _, below_allocs w _⟩
  go_enter Try.func34, Try.ntmps34
  have hca := HS.out.1.1
  go_wp2_with fail
  refine (HRT.out _).mono ?_
  rintro e w1 ⟨rfl, hb1⟩
  have HB := hide (below_trans HS.out.2 hb1)
  clear HS hb1 hca
  go_upto_region 2 with fail
  refine wp_gen (fun W => R2St w1.heap.size (w1.heap.size + 1) x y w W) (r2_put w w1 x y HB.out _ _) ?_
  clear HB
  rintro W2 h2
  have hl2 := h2.ly.1
  have HB := hide h2.bel
  clear h2
  rcases HM with rfl | rfl
  · go_wp2
    go_ret
    exact ⟨ret_bool (by simp), HB.out⟩
  · go_wp2
    go_ret
    exact ⟨ret_bool (by simp), HB.out⟩

end Go.Proofs.Ytmbbhagjfgjhgaa

/- Contracts: radix2.Digits. -/
set_option linter.unusedVariables false
set_option linter.unusedSimpArgs false
set_option maxRecDepth 8000
namespace Go.Proofs.Ytmbbhagjfgjhgaa
open Go.RowKit Plain

def mkI (d : Nat) : Value := .int .i64 (d : Nat)
theorem int_info : (Try.prog.info? 3).map (fun i => (i.zero, i.size, i.bytes)) = some (some (.int .i64 0), 1, 8) := by kernel_rfl
/-- A row of the call's own stays, where its block does. -/
theorem owns_of_block {w w' : World} {base : Nat} {e : TypeId} {size n : Nat} {v : Value} {xs : List Value} (h : w.ownsRow base e size v n xs) (hb : ∀ g, v.ownBlock = some g → w'.heap[g]? = w.heap[g]?) : w'.ownsRow base e size v n xs := by
  refine ⟨h.1, ?_⟩
  rcases h.2 with hn | ⟨g, cap, cur, rfl, hb1, hgg, rest⟩
  · exact .inl hn
  · exact .inr ⟨g, cap, cur, rfl, hb1, (hb g rfl).trans hgg, rest⟩
theorem info_rd {mk : Nat → Value} {W : World} {base : Nat} {e : TypeId} {v : Value} {n : Nat} {l : List Nat} (hl : l.length = n) (h : W.ownsRow base e 1 v n (l.map mk)) : Rd mk W v l := Rd.of_owns (by rw [hl]; exact h)

end Go.Proofs.Ytmbbhagjfgjhgaa

/- Contracts: root2.Digits, Round. -/
set_option linter.unusedVariables false
set_option linter.unusedSimpArgs false
set_option maxRecDepth 8000
namespace Go.Proofs.Ytmbbhagjfgjhgaa
open Go.RowKit Plain

/-- What Digits goes by: the root, in a box, and a row of 128. -/
structure D2St (S p4 g : Nat) (o : List Nat) (w W : World) : Prop where
  l4 : LiesF W p4 (dgl S)
  own : W.ownsRow g 3 1 (.slice (some ⟨g, 0, none⟩) 128 128) 128 (o.map mkI)
  bel : Below w.heap.size w W
  o4 : p4 < g
  og : w.heap.size ≤ g
theorem D2St.below {S p4 g : Nat} {o : List Nat} {w W W' : World} (h : D2St S p4 g o w W) (hb : Below W.heap.size W W') : D2St S p4 g o w W' :=
  ⟨h.l4.below hb, owns_of_block h.own fun g2 hg => hb.block g2 (h.own.lt g2 hg).2, below_trans h.bel hb, h.o4, h.og⟩
theorem D2St.store {S p4 g : Nat} {o : List Nat} {w W : World} (h : D2St S p4 g o w W) (j d : Nat) : D2St S p4 g (o.set j d) w (W.setCell ⟨g, j, none⟩ (mkI d)) := by
  obtain ⟨h1, h3⟩ := owns_store (mk := mkI) h.own j d (Below.refl g W) (Nat.le_refl _)
  exact ⟨lies_box h.l4 h3 h.o4, h1, h.bel.setCell (p := ⟨g, j, none⟩) h.og _, h.o4, h.og⟩

set_option maxHeartbeats 1000000 in
theorem pdig2_E (n : Nat) (HRT : Hid (∀ w, Calls Try.prog 32 #[.agg #[.int .u64 (dgl (n) 0 : Nat), .int .u64 (dgl (n) 1 : Nat), .int .u64 (dgl (n) 2 : Nat), .int .u64 (dgl (n) 3 : Nat), .int .u64 (dgl (n) 4 : Nat), .int .u64 (dgl (n) 5 : Nat), .int .u64 (dgl (n) 6 : Nat), .int .u64 (dgl (n) 7 : Nat)]] w fun e w' => e = .returned (.tuple #[.agg #[.int .u64 0, .int .u64 0, .int .u64 0, .int .u64 0, .int .u64 0, .int .u64 0, .int .u64 0, .int .u64 0], .agg #[.int .u64 0, .int .u64 0, .int .u64 0, .int .u64 0, .int .u64 0, .int .u64 0, .int .u64 0, .int .u64 0], .int .i64 4]) ∧ Below w.heap.size w w')) (w : World) :
    Calls Try.prog 36 #[.agg #[.int .u64 (dgl (n) 0 : Nat), .int .u64 (dgl (n) 1 : Nat), .int .u64 (dgl (n) 2 : Nat), .int .u64 (dgl (n) 3 : Nat), .int .u64 (dgl (n) 4 : Nat), .int .u64 (dgl (n) 5 : Nat), .int .u64 (dgl (n) 6 : Nat), .int .u64 (dgl (n) 7 : Nat)]] w fun e w' => e = .returned (.tuple #[.slice none 0 0, .int .i64 4]) ∧ Below w.heap.size w w' := by
  have HS : Hid (LiesF (w.alloc (.cells #[.int .u64 (dgl (n) 0 : Nat), .int .u64 (dgl (n) 1 : Nat), .int .u64 (dgl (n) 2 : Nat), .int .u64 (dgl (n) 3 : Nat), .int .u64 (dgl (n) 4 : Nat), .int .u64 (dgl (n) 5 : Nat), .int .u64 (dgl (n) 6 : Nat), .int .u64 (dgl (n) 7 : Nat)] 24)) w.heap.size (dgl n) ∧ Below w.heap.size w (w.alloc (.cells #[.int .u64 (dgl (n) 0 : Nat), .int .u64 (dgl (n) 1 : Nat), .int .u64 (dgl (n) 2 : Nat), .int .u64 (dgl (n) 3 : Nat), .int .u64 (dgl (n) 4 : Nat), .int .u64 (dgl (n) 5 : Nat), .int .u64 (dgl (n) 6 : Nat), .int .u64 (dgl (n) 7 : Nat)] 24))) := ⟨liesF_new w (dgl n) _, below_allocs w _⟩
  go_enter Try.func36, Try.ntmps36
  have hca := HS.out.1.1
  go_wp2_with fail
  refine (HRT.out _).mono ?_
  rintro e w1 ⟨rfl, hb1⟩
  have HB := hide (below_trans HS.out.2 hb1)
  clear HS hb1 hca
  go_upto_region 2 with fail
  refine wp_gen (fun W => Below w.heap.size w W) (below_trans (below_trans HB.out (below_allocs _ _)) (below_allocs _ _)) ?_
  clear HB
  rintro W2 h2
  have HB := hide h2
  clear h2
  go_wp2
  exact bodyPost_ret (v := .tuple #[.slice none 0 0, .int .i64 4]) (by simp [results, Try.results36, go_sem]) rfl ⟨rfl, HB.out⟩

set_option maxHeartbeats 4000000 in
theorem pdig2_Y (n S r : Nat) (hS : S < QQ) (HRT : Hid (∀ w, Calls Try.prog 32 #[.agg #[.int .u64 (dgl (n) 0 : Nat), .int .u64 (dgl (n) 1 : Nat), .int .u64 (dgl (n) 2 : Nat), .int .u64 (dgl (n) 3 : Nat), .int .u64 (dgl (n) 4 : Nat), .int .u64 (dgl (n) 5 : Nat), .int .u64 (dgl (n) 6 : Nat), .int .u64 (dgl (n) 7 : Nat)]] w fun e w' => e = .returned (.tuple #[.agg #[.int .u64 (dgl (S) 0 : Nat), .int .u64 (dgl (S) 1 : Nat), .int .u64 (dgl (S) 2 : Nat), .int .u64 (dgl (S) 3 : Nat), .int .u64 (dgl (S) 4 : Nat), .int .u64 (dgl (S) 5 : Nat), .int .u64 (dgl (S) 6 : Nat), .int .u64 (dgl (S) 7 : Nat)], .agg #[.int .u64 (dgl (r) 0 : Nat), .int .u64 (dgl (r) 1 : Nat), .int .u64 (dgl (r) 2 : Nat), .int .u64 (dgl (r) 3 : Nat), .int .u64 (dgl (r) 4 : Nat), .int .u64 (dgl (r) 5 : Nat), .int .u64 (dgl (r) 6 : Nat), .int .u64 (dgl (r) 7 : Nat)], .int .i64 0]) ∧ Below w.heap.size w w')) (w : World) :
    Calls Try.prog 36 #[.agg #[.int .u64 (dgl (n) 0 : Nat), .int .u64 (dgl (n) 1 : Nat), .int .u64 (dgl (n) 2 : Nat), .int .u64 (dgl (n) 3 : Nat), .int .u64 (dgl (n) 4 : Nat), .int .u64 (dgl (n) 5 : Nat), .int .u64 (dgl (n) 6 : Nat), .int .u64 (dgl (n) 7 : Nat)]] w fun e w' => ∃ v L, e = .returned (.tuple #[v, .int .i64 0]) ∧ L.length = 128 ∧ (∀ k, k < 128 → dg L k = S / 2 ^ (127 - k) % 2) ∧ Rd mkI w' v L ∧ Below w.heap.size w w' := by
  obtain ⟨i0, hi, hz0, hz1, hz2⟩ := info_parts int_info
  have HS : Hid (LiesF (w.alloc (.cells #[.int .u64 (dgl (n) 0 : Nat), .int .u64 (dgl (n) 1 : Nat), .int .u64 (dgl (n) 2 : Nat), .int .u64 (dgl (n) 3 : Nat), .int .u64 (dgl (n) 4 : Nat), .int .u64 (dgl (n) 5 : Nat), .int .u64 (dgl (n) 6 : Nat), .int .u64 (dgl (n) 7 : Nat)] 24)) w.heap.size (dgl n) ∧ Below w.heap.size w (w.alloc (.cells #[.int .u64 (dgl (n) 0 : Nat), .int .u64 (dgl (n) 1 : Nat), .int .u64 (dgl (n) 2 : Nat), .int .u64 (dgl (n) 3 : Nat), .int .u64 (dgl (n) 4 : Nat), .int .u64 (dgl (n) 5 : Nat), .int .u64 (dgl (n) 6 : Nat), .int .u64 (dgl (n) 7 : Nat)] 24))) := ⟨liesF_new w (dgl n) _, below_allocs w _⟩
  have HBT : Hid (∀ m : Nat, m ≤ 127 → ∀ w, Calls Try.prog 59 #[.agg #[.int .u64 (dgl (S) 0 : Nat), .int .u64 (dgl (S) 1 : Nat), .int .u64 (dgl (S) 2 : Nat), .int .u64 (dgl (S) 3 : Nat), .int .u64 (dgl (S) 4 : Nat), .int .u64 (dgl (S) 5 : Nat), .int .u64 (dgl (S) 6 : Nat), .int .u64 (dgl (S) 7 : Nat)], .int .i64 (m : Nat)] w fun e w' => e = .returned (.bool (S / 2 ^ m % 2 == 1)) ∧ Below w.heap.size w w') := by
    intro m hm w
    have h := wideBit_any S (m : Nat) hS (by omega) (by omega) w
    rw [show ((m : Nat) : Int).toNat = m by omega] at h
    exact h
  clear hS
  go_enter Try.func36, Try.ntmps36
  have hca := HS.out.1.1
  go_wp2_with fail
  refine (HRT.out _).mono ?_
  rintro e w1 ⟨rfl, hb1⟩
  have HB := hide (below_trans HS.out.2 hb1)
  clear HS hb1 hca
  go_upto_region 2 with fail
  refine wp_gen (fun W => LiesF W w1.heap.size (dgl S) ∧ Below w.heap.size w W) ⟨(r2_put w w1 S r HB.out _ _).lx, below_trans (below_trans HB.out (below_allocs _ _)) (below_allocs _ _)⟩ ?_
  clear HB
  generalize w1.heap.size = p4 at *
  rintro W2 h2
  have HS := hide h2
  clear h2
  go_wp2_with (at_make; refine wpList_mk0 W2 rfl _ _ 33 rfl 3 i0 (.int .i64 0) 8 Try.underlying33 hi hz0 hz1 hz2 mkI rfl rfl .i64 .i64 _ _ 128 (by rfl) (by rfl) (by omega) (by omega) (by omega) (by omega) ?_; intro w0 hown0 hbel0)
  have HD0 : Hid (D2St S p4 W2.heap.size (List.replicate 128 0) w w0) := ⟨HS.out.1.below hbel0, hown0, below_trans HS.out.2 hbel0, HS.out.1.2, HS.out.2.size⟩
  clear HS hown0 hbel0
  generalize W2.heap.size = g at *
  go_wp2
  go_loopw [21] (fun i wr => ∃ (j : Nat) (o : List Nat), j ≤ 128 ∧ i = .int .i64 (j : Nat) ∧ Hid (o.length = 128 ∧ (∀ k, k < j → dg o k = S / 2 ^ (127 - k) % 2) ∧ ∀ k, j ≤ k → dg o k = 0) ∧ Hid (D2St S p4 g o w wr))
    (fun i _ => 128 - (intOf i).toNat)
  case atStart => exact ⟨0, List.replicate 128 0, by omega, rfl, ⟨by simp, fun k hk => absurd hk (by omega), fun k _ => by (show (List.replicate 128 0).getD k 0 = 0; rw [List.getD_eq_getElem?_getD, List.getElem?_replicate]; split <;> rfl)⟩, HD0⟩
  case round =>
    clear HD0
    obtain ⟨j, o, hj, rfl, HO, hst⟩ := hrel
    by_cases hlt : j < 128
    · have hj1 : (j : Int) < 128 := by omega
      have hj0 : (0 : Int) ≤ (j : Int) := by omega
      obtain ⟨m, hm⟩ : ∃ m, 127 - j = m := ⟨_, rfl⟩
      have hsb : IntKind.i64.wrap (127 - (j : Int)) = ((m : Nat) : Int) := by rw [IntKind.wrap_i64]; omega
      have hw1 : IntKind.i64.wrap ((j : Int) + 1) = ((j + 1 : Nat) : Int) := by rw [IntKind.wrap_i64]; omega
      have HB := hide (HBT.out m (by omega))
      have HM := hide hm
      have hbc := bitN_cases S m
      clear hm
      have hl4 := hst.out.l4.1
      go_wp2_with fail
      refine (HB.out _).mono ?_
      rintro e w3 ⟨rfl, hb3⟩
      replace hst := hide (hst.out.below hb3)
      clear hb3 hl4 HB
      rcases hbc with hbit | hbit
      · have HN : Hid (o.length = 128 ∧ (∀ k, k < j + 1 → dg o k = S / 2 ^ (127 - k) % 2) ∧ ∀ k, j + 1 ≤ k → dg o k = 0) := by
          refine ⟨HO.out.1, fun k hk => ?_, fun k hk => HO.out.2.2 k (by omega)⟩
          rcases Nat.lt_or_ge k j with h | h
          · exact HO.out.2.1 k h
          · have : k = j := by omega
            subst this
            rw [HO.out.2.2 k (Nat.le_refl _), HM.out, hbit]
        have hq : (S / 2 ^ m % 2 == 1) = false := by rw [hbit]; rfl
        rw [hq]
        clear hbit hq HO HM
        go_wp2
        go_roundw
        case rel => exact ⟨j + 1, o, by omega, by go_num, HN, hst⟩
        case measure => simp [intOf]; omega
      · have HN : Hid ((o.set j 1).length = 128 ∧ (∀ k, k < j + 1 → dg (o.set j 1) k = S / 2 ^ (127 - k) % 2) ∧ ∀ k, j + 1 ≤ k → dg (o.set j 1) k = 0) := by
          refine ⟨by rw [List.length_set]; exact HO.out.1, fun k hk => ?_, fun k hk => ?_⟩
          · rw [dg_set _ _ _ _ (by rw [HO.out.1]; exact hlt)]
            split
            · rename_i h
              subst h
              rw [HM.out, hbit]
            · exact HO.out.2.1 k (by omega)
          · rw [dg_set _ _ _ _ (by rw [HO.out.1]; exact hlt), if_neg (by omega)]
            exact HO.out.2.2 k (by omega)
        have hq : (S / 2 ^ m % 2 == 1) = true := by rw [hbit]; rfl
        rw [hq]
        have hco : w3.cell? ⟨g, j, none⟩ = some (mkI (dg o j)) := owns_cell hst.out.own HO.out.1 j hlt
        have hfo : w3.frozen? ⟨g, j, none⟩ = false := hst.out.own.frozenAt _
        clear hbit hq HO HM
        go_wp2
        go_roundw
        case rel => exact ⟨j + 1, o.set j 1, by omega, by go_num, HN, hst.out.store j 1⟩
        case measure => simp [intOf]; omega
    · have hk : j = 128 := by omega
      subst hk
      have HR : Hid (o.length = 128 ∧ (∀ k, k < 128 → dg o k = S / 2 ^ (127 - k) % 2) ∧ Rd mkI wr (.slice (some ⟨g, 0, none⟩) 128 128) o ∧ Below w.heap.size w wr) := ⟨HO.out.1, HO.out.2.1, info_rd HO.out.1 hst.out.own, hst.out.bel⟩
      clear HO hst
      go_wp2
      exact bodyPost_ret (v := .tuple #[.slice (some ⟨g, 0, none⟩) 128 128, .int .i64 0]) (by simp [results, Try.results36, go_sem]) rfl ⟨_, o, rfl, HR.out⟩

set_option maxHeartbeats 1000000 in
theorem prnd_E (n : Nat) (HRT : Hid (∀ w, Calls Try.prog 32 #[.agg #[.int .u64 (dgl (n) 0 : Nat), .int .u64 (dgl (n) 1 : Nat), .int .u64 (dgl (n) 2 : Nat), .int .u64 (dgl (n) 3 : Nat), .int .u64 (dgl (n) 4 : Nat), .int .u64 (dgl (n) 5 : Nat), .int .u64 (dgl (n) 6 : Nat), .int .u64 (dgl (n) 7 : Nat)]] w fun e w' => e = .returned (.tuple #[.agg #[.int .u64 0, .int .u64 0, .int .u64 0, .int .u64 0, .int .u64 0, .int .u64 0, .int .u64 0, .int .u64 0], .agg #[.int .u64 0, .int .u64 0, .int .u64 0, .int .u64 0, .int .u64 0, .int .u64 0, .int .u64 0, .int .u64 0], .int .i64 4]) ∧ Below w.heap.size w w')) (w : World) :
    Calls Try.prog 40 #[.agg #[.int .u64 (dgl (n) 0 : Nat), .int .u64 (dgl (n) 1 : Nat), .int .u64 (dgl (n) 2 : Nat), .int .u64 (dgl (n) 3 : Nat), .int .u64 (dgl (n) 4 : Nat), .int .u64 (dgl (n) 5 : Nat), .int .u64 (dgl (n) 6 : Nat), .int .u64 (dgl (n) 7 : Nat)]] w fun e w' => e = .returned (.tuple #[.agg #[.int .u64 0, .int .u64 0, .int .u64 0, .int .u64 0, .int .u64 0, .int .u64 0, .int .u64 0, .int .u64 0], .int .i64 4]) ∧ Below w.heap.size w w' := by
  have HS := hide (r1_start n w 24 24)
  go_enter Try.func40, Try.ntmps40
  have hca := HS.out.la.1
  go_wp2_with fail
  refine (HRT.out _).mono ?_
  rintro e w1 ⟨rfl, hb1⟩
  replace HS := hide (HS.out.below hb1)
  clear hb1 hca
  go_upto_region 2 with fail
  refine wp_gen (fun W => R1St n 0 w W) ((HS.out.below (below_allocs _ _)).below (below_allocs _ _)) ?_
  clear HS
  rintro W2 h2
  have hr1 := h2.lr.1
  have hrl1 := h2.lr.2
  have hrf1 := h2.fr
  have HBE := hide h2.bel
  clear h2
  go_wp2
  exact bodyPost_ret (v := .tuple #[.agg #[.int .u64 0, .int .u64 0, .int .u64 0, .int .u64 0, .int .u64 0, .int .u64 0, .int .u64 0, .int .u64 0], .int .i64 4]) (by simp [results, Try.results40, go_sem, hr1, hrl1]) rfl ⟨rfl, below_set8 HBE.out _ (by omega) _ _ _ _ _ _ _ _⟩

set_option maxHeartbeats 4000000 in
theorem prnd_N (n s r : Nat) (q : Int) (hq : ¬ 0 < q) (HRT : Hid (∀ w, Calls Try.prog 32 #[.agg #[.int .u64 (dgl (n) 0 : Nat), .int .u64 (dgl (n) 1 : Nat), .int .u64 (dgl (n) 2 : Nat), .int .u64 (dgl (n) 3 : Nat), .int .u64 (dgl (n) 4 : Nat), .int .u64 (dgl (n) 5 : Nat), .int .u64 (dgl (n) 6 : Nat), .int .u64 (dgl (n) 7 : Nat)]] w fun e w' => e = .returned (.tuple #[.agg #[.int .u64 (dgl (s) 0 : Nat), .int .u64 (dgl (s) 1 : Nat), .int .u64 (dgl (s) 2 : Nat), .int .u64 (dgl (s) 3 : Nat), .int .u64 (dgl (s) 4 : Nat), .int .u64 (dgl (s) 5 : Nat), .int .u64 (dgl (s) 6 : Nat), .int .u64 (dgl (s) 7 : Nat)], .agg #[.int .u64 (dgl (r) 0 : Nat), .int .u64 (dgl (r) 1 : Nat), .int .u64 (dgl (r) 2 : Nat), .int .u64 (dgl (r) 3 : Nat), .int .u64 (dgl (r) 4 : Nat), .int .u64 (dgl (r) 5 : Nat), .int .u64 (dgl (r) 6 : Nat), .int .u64 (dgl (r) 7 : Nat)], .int .i64 0]) ∧ Below w.heap.size w w'))
    (HCM : Hid (∀ w, Calls Try.prog 47 #[.agg #[.int .u64 (dgl (r) 0 : Nat), .int .u64 (dgl (r) 1 : Nat), .int .u64 (dgl (r) 2 : Nat), .int .u64 (dgl (r) 3 : Nat), .int .u64 (dgl (r) 4 : Nat), .int .u64 (dgl (r) 5 : Nat), .int .u64 (dgl (r) 6 : Nat), .int .u64 (dgl (r) 7 : Nat)], .agg #[.int .u64 (dgl (s) 0 : Nat), .int .u64 (dgl (s) 1 : Nat), .int .u64 (dgl (s) 2 : Nat), .int .u64 (dgl (s) 3 : Nat), .int .u64 (dgl (s) 4 : Nat), .int .u64 (dgl (s) 5 : Nat), .int .u64 (dgl (s) 6 : Nat), .int .u64 (dgl (s) 7 : Nat)]] w fun e w' => e = .returned (.int .i64 q) ∧ Below w.heap.size w w')) (w : World) :
    Calls Try.prog 40 #[.agg #[.int .u64 (dgl (n) 0 : Nat), .int .u64 (dgl (n) 1 : Nat), .int .u64 (dgl (n) 2 : Nat), .int .u64 (dgl (n) 3 : Nat), .int .u64 (dgl (n) 4 : Nat), .int .u64 (dgl (n) 5 : Nat), .int .u64 (dgl (n) 6 : Nat), .int .u64 (dgl (n) 7 : Nat)]] w fun e w' => e = .returned (.tuple #[.agg #[.int .u64 (dgl (s) 0 : Nat), .int .u64 (dgl (s) 1 : Nat), .int .u64 (dgl (s) 2 : Nat), .int .u64 (dgl (s) 3 : Nat), .int .u64 (dgl (s) 4 : Nat), .int .u64 (dgl (s) 5 : Nat), .int .u64 (dgl (s) 6 : Nat), .int .u64 (dgl (s) 7 : Nat)], .int .i64 0]) ∧ Below w.heap.size w w' := by
  have HS := hide (r1_start n w 24 24)
  go_enter Try.func40, Try.ntmps40
  have hca := HS.out.la.1
  go_wp2_with fail
  refine (HRT.out _).mono ?_
  rintro e w1 ⟨rfl, hb1⟩
  replace HS := hide (HS.out.below hb1)
  clear hb1 hca
  go_upto_region 2 with fail
  have hbw := below_trans (below_allocs w1 (.cells #[.int .u64 (dgl (s) 0 : Nat), .int .u64 (dgl (s) 1 : Nat), .int .u64 (dgl (s) 2 : Nat), .int .u64 (dgl (s) 3 : Nat), .int .u64 (dgl (s) 4 : Nat), .int .u64 (dgl (s) 5 : Nat), .int .u64 (dgl (s) 6 : Nat), .int .u64 (dgl (s) 7 : Nat)] 24)) (below_allocs _ (.cells #[.int .u64 (dgl (r) 0 : Nat), .int .u64 (dgl (r) 1 : Nat), .int .u64 (dgl (r) 2 : Nat), .int .u64 (dgl (r) 3 : Nat), .int .u64 (dgl (r) 4 : Nat), .int .u64 (dgl (r) 5 : Nat), .int .u64 (dgl (r) 6 : Nat), .int .u64 (dgl (r) 7 : Nat)] 24))
  refine wp_gen (fun W => R1St n 0 w W ∧ R2St w1.heap.size (w1.heap.size + 1) s r w W) ⟨HS.out.below hbw, r2_put w w1 s r HS.out.bel _ _⟩ ?_
  have HP4 := hide HS.out.lr.2
  clear HS hbw
  obtain ⟨p5, hp5⟩ : ∃ p5, w1.heap.size + 1 = p5 := ⟨_, rfl⟩
  rw [hp5]
  clear hp5
  generalize w1.heap.size = p4 at *
  rintro W2 h2
  have HS := hide h2
  have hl4 := h2.2.lx.1
  have hl5 := h2.2.ly.1
  clear h2
  go_wp2_with fail
  refine (HCM.out _).mono ?_
  rintro e w3 ⟨rfl, hb3⟩
  replace HS := hide (show R1St n 0 w w3 ∧ R2St p4 p5 s r w w3 from ⟨HS.out.1.below hb3, HS.out.2.below hb3⟩)
  clear hb3 hl4 hl5
  replace HS := hide (show R1St n 0 w w3 ∧ LiesF w3 p4 (dgl s) from ⟨HS.out.1, HS.out.2.lx⟩)
  have hl4 := HS.out.2.1
  have hr1 := HS.out.1.lr.1
  have hrl1 := HS.out.1.lr.2
  have hrf1 := HS.out.1.fr
  have HBE := hide HS.out.1.bel
  clear HS HP4
  go_wp2
  exact bodyPost_ret (v := .tuple #[.agg #[.int .u64 (dgl (s) 0 : Nat), .int .u64 (dgl (s) 1 : Nat), .int .u64 (dgl (s) 2 : Nat), .int .u64 (dgl (s) 3 : Nat), .int .u64 (dgl (s) 4 : Nat), .int .u64 (dgl (s) 5 : Nat), .int .u64 (dgl (s) 6 : Nat), .int .u64 (dgl (s) 7 : Nat)], .int .i64 0]) (by simp [results, Try.results40, go_sem, hr1, hrl1]) rfl ⟨rfl, below_set8 HBE.out _ (by omega) _ _ _ _ _ _ _ _⟩

set_option maxHeartbeats 4000000 in
theorem prnd_G (n s r : Nat) (q : Int) (hq : 0 < q) (HRT : Hid (∀ w, Calls Try.prog 32 #[.agg #[.int .u64 (dgl (n) 0 : Nat), .int .u64 (dgl (n) 1 : Nat), .int .u64 (dgl (n) 2 : Nat), .int .u64 (dgl (n) 3 : Nat), .int .u64 (dgl (n) 4 : Nat), .int .u64 (dgl (n) 5 : Nat), .int .u64 (dgl (n) 6 : Nat), .int .u64 (dgl (n) 7 : Nat)]] w fun e w' => e = .returned (.tuple #[.agg #[.int .u64 (dgl (s) 0 : Nat), .int .u64 (dgl (s) 1 : Nat), .int .u64 (dgl (s) 2 : Nat), .int .u64 (dgl (s) 3 : Nat), .int .u64 (dgl (s) 4 : Nat), .int .u64 (dgl (s) 5 : Nat), .int .u64 (dgl (s) 6 : Nat), .int .u64 (dgl (s) 7 : Nat)], .agg #[.int .u64 (dgl (r) 0 : Nat), .int .u64 (dgl (r) 1 : Nat), .int .u64 (dgl (r) 2 : Nat), .int .u64 (dgl (r) 3 : Nat), .int .u64 (dgl (r) 4 : Nat), .int .u64 (dgl (r) 5 : Nat), .int .u64 (dgl (r) 6 : Nat), .int .u64 (dgl (r) 7 : Nat)], .int .i64 0]) ∧ Below w.heap.size w w'))
    (HCM : Hid (∀ w, Calls Try.prog 47 #[.agg #[.int .u64 (dgl (r) 0 : Nat), .int .u64 (dgl (r) 1 : Nat), .int .u64 (dgl (r) 2 : Nat), .int .u64 (dgl (r) 3 : Nat), .int .u64 (dgl (r) 4 : Nat), .int .u64 (dgl (r) 5 : Nat), .int .u64 (dgl (r) 6 : Nat), .int .u64 (dgl (r) 7 : Nat)], .agg #[.int .u64 (dgl (s) 0 : Nat), .int .u64 (dgl (s) 1 : Nat), .int .u64 (dgl (s) 2 : Nat), .int .u64 (dgl (s) 3 : Nat), .int .u64 (dgl (s) 4 : Nat), .int .u64 (dgl (s) 5 : Nat), .int .u64 (dgl (s) 6 : Nat), .int .u64 (dgl (s) 7 : Nat)]] w fun e w' => e = .returned (.int .i64 q) ∧ Below w.heap.size w w'))
    (HOF : Hid (∀ v w, Rd mk64 w v [1] → Calls Try.prog 45 #[v] w fun e w' => e = .returned (.agg #[.int .u64 (dgl (1) 0 : Nat), .int .u64 (dgl (1) 1 : Nat), .int .u64 (dgl (1) 2 : Nat), .int .u64 (dgl (1) 3 : Nat), .int .u64 (dgl (1) 4 : Nat), .int .u64 (dgl (1) 5 : Nat), .int .u64 (dgl (1) 6 : Nat), .int .u64 (dgl (1) 7 : Nat)]) ∧ Below w.heap.size w w'))
    (HSU : Hid (∀ v w, RdW w v [s, 1] → Calls Try.prog 44 #[v] w fun e w' => e = .returned (.agg #[.int .u64 (dgl (s + 1) 0 : Nat), .int .u64 (dgl (s + 1) 1 : Nat), .int .u64 (dgl (s + 1) 2 : Nat), .int .u64 (dgl (s + 1) 3 : Nat), .int .u64 (dgl (s + 1) 4 : Nat), .int .u64 (dgl (s + 1) 5 : Nat), .int .u64 (dgl (s + 1) 6 : Nat), .int .u64 (dgl (s + 1) 7 : Nat)]) ∧ Below w.heap.size w w')) (w : World) :
    Calls Try.prog 40 #[.agg #[.int .u64 (dgl (n) 0 : Nat), .int .u64 (dgl (n) 1 : Nat), .int .u64 (dgl (n) 2 : Nat), .int .u64 (dgl (n) 3 : Nat), .int .u64 (dgl (n) 4 : Nat), .int .u64 (dgl (n) 5 : Nat), .int .u64 (dgl (n) 6 : Nat), .int .u64 (dgl (n) 7 : Nat)]] w fun e w' => e = .returned (.tuple #[.agg #[.int .u64 (dgl (s + 1) 0 : Nat), .int .u64 (dgl (s + 1) 1 : Nat), .int .u64 (dgl (s + 1) 2 : Nat), .int .u64 (dgl (s + 1) 3 : Nat), .int .u64 (dgl (s + 1) 4 : Nat), .int .u64 (dgl (s + 1) 5 : Nat), .int .u64 (dgl (s + 1) 6 : Nat), .int .u64 (dgl (s + 1) 7 : Nat)], .int .i64 0]) ∧ Below w.heap.size w w' := by
  have HS := hide (r1_start n w 24 24)
  go_enter Try.func40, Try.ntmps40
  have hca := HS.out.la.1
  go_wp2_with fail
  refine (HRT.out _).mono ?_
  rintro e w1 ⟨rfl, hb1⟩
  replace HS := hide (HS.out.below hb1)
  clear hb1 hca
  go_upto_region 2 with fail
  have hbw := below_trans (below_allocs w1 (.cells #[.int .u64 (dgl (s) 0 : Nat), .int .u64 (dgl (s) 1 : Nat), .int .u64 (dgl (s) 2 : Nat), .int .u64 (dgl (s) 3 : Nat), .int .u64 (dgl (s) 4 : Nat), .int .u64 (dgl (s) 5 : Nat), .int .u64 (dgl (s) 6 : Nat), .int .u64 (dgl (s) 7 : Nat)] 24)) (below_allocs _ (.cells #[.int .u64 (dgl (r) 0 : Nat), .int .u64 (dgl (r) 1 : Nat), .int .u64 (dgl (r) 2 : Nat), .int .u64 (dgl (r) 3 : Nat), .int .u64 (dgl (r) 4 : Nat), .int .u64 (dgl (r) 5 : Nat), .int .u64 (dgl (r) 6 : Nat), .int .u64 (dgl (r) 7 : Nat)] 24))
  refine wp_gen (fun W => R1St n 0 w W ∧ R2St w1.heap.size (w1.heap.size + 1) s r w W) ⟨HS.out.below hbw, r2_put w w1 s r HS.out.bel _ _⟩ ?_
  have HP4 := hide HS.out.lr.2
  clear HS hbw
  obtain ⟨p5, hp5⟩ : ∃ p5, w1.heap.size + 1 = p5 := ⟨_, rfl⟩
  rw [hp5]
  clear hp5
  generalize w1.heap.size = p4 at *
  rintro W2 h2
  have HS := hide h2
  have hl4 := h2.2.lx.1
  have hl5 := h2.2.ly.1
  clear h2
  go_wp2_with fail
  refine (HCM.out _).mono ?_
  rintro e w3 ⟨rfl, hb3⟩
  replace HS := hide (show R1St n 0 w w3 ∧ R2St p4 p5 s r w w3 from ⟨HS.out.1.below hb3, HS.out.2.below hb3⟩)
  clear hb3 hl4 hl5
  go_upto_region 5 with fail
  refine wp_gen (fun W => R1St n 0 w W ∧ R2St p4 p5 s r w W) HS.out ?_
  clear HS
  rintro W5 h5
  refine wp_region_grow 5 [(21, .val (.agg #[.int .u64 (dgl (s) 0 : Nat), .int .u64 (dgl (s) 1 : Nat), .int .u64 (dgl (s) 2 : Nat), .int .u64 (dgl (s) 3 : Nat), .int .u64 (dgl (s) 4 : Nat), .int .u64 (dgl (s) 5 : Nat), .int .u64 (dgl (s) 6 : Nat), .int .u64 (dgl (s) 7 : Nat)])), (22, .rd [1]), (23, .val (.agg #[.int .u64 (dgl (1) 0 : Nat), .int .u64 (dgl (1) 1 : Nat), .int .u64 (dgl (1) 2 : Nat), .int .u64 (dgl (1) 3 : Nat), .int .u64 (dgl (1) 4 : Nat), .int .u64 (dgl (1) 5 : Nat), .int .u64 (dgl (1) 6 : Nat), .int .u64 (dgl (1) 7 : Nat)])), (24, .wides w.heap.size [s, 1]), (25, .val (.agg #[.int .u64 (dgl (s + 1) 0 : Nat), .int .u64 (dgl (s + 1) 1 : Nat), .int .u64 (dgl (s + 1) 2 : Nat), .int .u64 (dgl (s + 1) 3 : Nat), .int .u64 (dgl (s + 1) 4 : Nat), .int .u64 (dgl (s + 1) 5 : Nat), .int .u64 (dgl (s + 1) 6 : Nat), .int .u64 (dgl (s + 1) 7 : Nat)]))]
    (fun W => R1St n 0 w W ∧ R2St p4 p5 s r w W) mixedOk (by kernel_rfl) (by kernel_rfl) (⟨h5.1.below (Below.refl _ _).drew, h5.2.below (Below.refl _ _).drew⟩) (fun W W' h hb => ⟨h.1.below hb, h.2.below hb⟩) ?_ ?_
  · refine gSt (gStep_run rfl ?_) ?_
    · intro ρ W hC hc hf hL
      have e4 : ρ (.tmp 4) = .pointer (some ⟨p4, 0, none⟩) := hL 4 (by decide +kernel)
      have hl := hC.2.lx.1
      simp [go_sem, hc, hf, e4, hl]
      exact ⟨Below.refl _ _, rfl⟩
    refine gSt (gStep_run rfl ?_) ?_
    · intro ρ W hC hc hf hL
      simp [go_sem, hc, hf]
      exact ⟨below_allocs _ _, Rd.lit (mk := mk64) W 22 [.int .u64 1] [1] rfl 1 (Nat.le_refl 1) (by decide)⟩
    refine gSt (gStep_run rfl ?_) ?_
    · intro ρ W hC hc hf hL
      have b22 := hL 22 (by decide +kernel)
      simp [go_sem, hc, hf]
      refine (HOF.out _ _ b22).mono ?_
      rintro e w' ⟨rfl, hb⟩
      exact ⟨_, rfl, by first | exact hb | (subst hb; exact Below.refl _ _), rfl⟩
    refine gSt (gStep_run rfl ?_) ?_
    · intro ρ W hC hc hf hL
      have e21 : ρ (.tmp 21) = .agg #[.int .u64 (dgl (s) 0 : Nat), .int .u64 (dgl (s) 1 : Nat), .int .u64 (dgl (s) 2 : Nat), .int .u64 (dgl (s) 3 : Nat), .int .u64 (dgl (s) 4 : Nat), .int .u64 (dgl (s) 5 : Nat), .int .u64 (dgl (s) 6 : Nat), .int .u64 (dgl (s) 7 : Nat)] := hL 21 (by decide +kernel)
      have e23 : ρ (.tmp 23) = .agg #[.int .u64 (dgl (1) 0 : Nat), .int .u64 (dgl (1) 1 : Nat), .int .u64 (dgl (1) 2 : Nat), .int .u64 (dgl (1) 3 : Nat), .int .u64 (dgl (1) 4 : Nat), .int .u64 (dgl (1) 5 : Nat), .int .u64 (dgl (1) 6 : Nat), .int .u64 (dgl (1) 7 : Nat)] := hL 23 (by decide +kernel)
      simp [go_sem, hc, hf, e21, e23]
      exact ⟨below_allocs _ _, _, rfl, hC.1.la.2, by simp, fun i j hi hj => wides2_new W s 1 _ i j hi hj⟩
    refine gSt (gStep_run rfl ?_) ?_
    · intro ρ W hC hc hf hL
      have b24 := hL 24 (by decide +kernel)
      simp [go_sem, hc, hf]
      refine (HSU.out _ _ (wides_rd (by simp) b24)).mono ?_
      rintro e w' ⟨rfl, hb⟩
      exact ⟨_, rfl, by first | exact hb | (subst hb; exact Below.refl _ _), rfl⟩
    exact gSt0
  · intro W hC
    refine gFi 21 rfl ?_
    rintro _ rfl
    refine gFi 22 rfl ?_
    rintro u22 b22
    refine gFi 23 rfl ?_
    rintro _ rfl
    refine gFi 24 rfl ?_
    rintro u24 b24
    refine gFi 25 rfl ?_
    rintro _ rfl
    refine gFi0 ?_
    simp only [List.drop_succ_cons, List.drop_zero, Act.put, List.setIfInBounds_toArray, List.set_cons_succ, List.set_cons_zero]
    have hl4 := hC.2.lx.1
    have hl4l := hC.2.lx.2
    have hl4f := hC.2.fx
    have HC := hide hC
    clear hC h5 b22 b24
    go_upto_region 6 with fail
    have hs8 := below_set8 (Below.refl p4 W) p4 (Nat.le_refl _) (.int .u64 (dgl (s + 1) 0 : Nat)) (.int .u64 (dgl (s + 1) 1 : Nat)) (.int .u64 (dgl (s + 1) 2 : Nat)) (.int .u64 (dgl (s + 1) 3 : Nat)) (.int .u64 (dgl (s + 1) 4 : Nat)) (.int .u64 (dgl (s + 1) 5 : Nat)) (.int .u64 (dgl (s + 1) 6 : Nat)) (.int .u64 (dgl (s + 1) 7 : Nat))
    refine wp_gen (fun W => R1St n 0 w W ∧ LiesF W p4 (dgl (s + 1))) ⟨HC.out.1.under hs8 HP4.out, (HC.out.2.set1 (s + 1)).lx⟩ ?_
    clear hl4 hl4l hl4f HC hs8
    rintro W6 h6
    have HS := hide h6
    clear h6
    have hl4 := HS.out.2.1
    have hr1 := HS.out.1.lr.1
    have hrl1 := HS.out.1.lr.2
    have hrf1 := HS.out.1.fr
    have HBE := hide HS.out.1.bel
    clear HS HP4
    go_wp2
    exact bodyPost_ret (v := .tuple #[.agg #[.int .u64 (dgl (s + 1) 0 : Nat), .int .u64 (dgl (s + 1) 1 : Nat), .int .u64 (dgl (s + 1) 2 : Nat), .int .u64 (dgl (s + 1) 3 : Nat), .int .u64 (dgl (s + 1) 4 : Nat), .int .u64 (dgl (s + 1) 5 : Nat), .int .u64 (dgl (s + 1) 6 : Nat), .int .u64 (dgl (s + 1) 7 : Nat)], .int .i64 0]) (by simp [results, Try.results40, go_sem, hr1, hrl1]) rfl ⟨rfl, below_set8 HBE.out _ (by omega) _ _ _ _ _ _ _ _⟩
    

end Go.Proofs.Ytmbbhagjfgjhgaa

/- Contracts: radicandlaw12's examples, and what holds of a root and a remainder. -/
set_option linter.unusedVariables false
set_option linter.unusedSimpArgs false
set_option maxRecDepth 8000
namespace Go.Proofs.Ytmbbhagjfgjhgaa
open Go.RowKit Plain

set_option maxHeartbeats 4000000 in
theorem awake12_walk (a b c d : Nat) (ha : ∀ w, (Op.equalIn 10000 24 (.agg #[.int .u64 (dgl (a) 0 : Nat), .int .u64 (dgl (a) 1 : Nat), .int .u64 (dgl (a) 2 : Nat), .int .u64 (dgl (a) 3 : Nat), .int .u64 (dgl (a) 4 : Nat), .int .u64 (dgl (a) 5 : Nat), .int .u64 (dgl (a) 6 : Nat), .int .u64 (dgl (a) 7 : Nat)]) (.agg #[.int .u64 9, .int .u64 0, .int .u64 0, .int .u64 0, .int .u64 0, .int .u64 0, .int .u64 0, .int .u64 0])).run Try.prog w = .ok true w)
    (hb : ∀ w, (Op.equalIn 10000 24 (.agg #[.int .u64 (dgl (b) 0 : Nat), .int .u64 (dgl (b) 1 : Nat), .int .u64 (dgl (b) 2 : Nat), .int .u64 (dgl (b) 3 : Nat), .int .u64 (dgl (b) 4 : Nat), .int .u64 (dgl (b) 5 : Nat), .int .u64 (dgl (b) 6 : Nat), .int .u64 (dgl (b) 7 : Nat)]) (.agg #[.int .u64 18, .int .u64 0, .int .u64 0, .int .u64 0, .int .u64 0, .int .u64 0, .int .u64 0, .int .u64 0])).run Try.prog w = .ok true w)
    (hc : ∀ w, (Op.equalIn 10000 24 (.agg #[.int .u64 (dgl (c) 0 : Nat), .int .u64 (dgl (c) 1 : Nat), .int .u64 (dgl (c) 2 : Nat), .int .u64 (dgl (c) 3 : Nat), .int .u64 (dgl (c) 4 : Nat), .int .u64 (dgl (c) 5 : Nat), .int .u64 (dgl (c) 6 : Nat), .int .u64 (dgl (c) 7 : Nat)]) (.agg #[.int .u64 4, .int .u64 0, .int .u64 0, .int .u64 0, .int .u64 0, .int .u64 0, .int .u64 0, .int .u64 0])).run Try.prog w = .ok true w)
    (hd : ∀ w, (Op.equalIn 10000 24 (.agg #[.int .u64 (dgl (d) 0 : Nat), .int .u64 (dgl (d) 1 : Nat), .int .u64 (dgl (d) 2 : Nat), .int .u64 (dgl (d) 3 : Nat), .int .u64 (dgl (d) 4 : Nat), .int .u64 (dgl (d) 5 : Nat), .int .u64 (dgl (d) 6 : Nat), .int .u64 (dgl (d) 7 : Nat)]) (.agg #[.int .u64 35, .int .u64 0, .int .u64 0, .int .u64 0, .int .u64 0, .int .u64 0, .int .u64 0, .int .u64 0])).run Try.prog w = .ok true w)
    (HR : Hid (∀ w, Calls Try.prog 32 #[.agg #[.int .u64 99, .int .u64 0, .int .u64 0, .int .u64 0, .int .u64 0, .int .u64 0, .int .u64 0, .int .u64 0]] w fun e w' => e = .returned (.tuple #[.agg #[.int .u64 (dgl (a) 0 : Nat), .int .u64 (dgl (a) 1 : Nat), .int .u64 (dgl (a) 2 : Nat), .int .u64 (dgl (a) 3 : Nat), .int .u64 (dgl (a) 4 : Nat), .int .u64 (dgl (a) 5 : Nat), .int .u64 (dgl (a) 6 : Nat), .int .u64 (dgl (a) 7 : Nat)], .agg #[.int .u64 (dgl (b) 0 : Nat), .int .u64 (dgl (b) 1 : Nat), .int .u64 (dgl (b) 2 : Nat), .int .u64 (dgl (b) 3 : Nat), .int .u64 (dgl (b) 4 : Nat), .int .u64 (dgl (b) 5 : Nat), .int .u64 (dgl (b) 6 : Nat), .int .u64 (dgl (b) 7 : Nat)], .int .i64 0]) ∧ Below w.heap.size w w'))
    (HC : Hid (∀ w, Calls Try.prog 39 #[.agg #[.int .u64 99, .int .u64 0, .int .u64 0, .int .u64 0, .int .u64 0, .int .u64 0, .int .u64 0, .int .u64 0]] w fun e w' => e = .returned (.tuple #[.agg #[.int .u64 (dgl (c) 0 : Nat), .int .u64 (dgl (c) 1 : Nat), .int .u64 (dgl (c) 2 : Nat), .int .u64 (dgl (c) 3 : Nat), .int .u64 (dgl (c) 4 : Nat), .int .u64 (dgl (c) 5 : Nat), .int .u64 (dgl (c) 6 : Nat), .int .u64 (dgl (c) 7 : Nat)], .agg #[.int .u64 (dgl (d) 0 : Nat), .int .u64 (dgl (d) 1 : Nat), .int .u64 (dgl (d) 2 : Nat), .int .u64 (dgl (d) 3 : Nat), .int .u64 (dgl (d) 4 : Nat), .int .u64 (dgl (d) 5 : Nat), .int .u64 (dgl (d) 6 : Nat), .int .u64 (dgl (d) 7 : Nat)], .int .i64 0]) ∧ Below w.heap.size w w')) (w : World) :
    Calls Try.prog 35 #[] w fun e w' => e = .returned (.bool true) ∧ Below w.heap.size w w' := by
  go_enter Try.func35, Try.ntmps35
  go_wp2_with fail
  refine (HR.out _).mono ?_
  rintro e w1 ⟨rfl, hb1⟩
  go_upto_region 2 with fail
  refine wp_gen (fun W => R2St w1.heap.size (w1.heap.size + 1) a b w W) (r2_put w w1 a b hb1 _ _) ?_
  clear hb1 HR
  obtain ⟨pb, hpb⟩ : ∃ pb, w1.heap.size + 1 = pb := ⟨_, rfl⟩
  rw [hpb]
  clear hpb
  generalize w1.heap.size = pa at *
  rintro W2 h2
  have HS := hide h2
  clear h2
  go_wp2_with fail
  refine (HC.out _).mono ?_
  rintro e w3 ⟨rfl, hb3⟩
  replace HS := hide (HS.out.below hb3)
  clear hb3 HC
  go_upto_region 3 with fail
  have hbw := below_trans (below_allocs w3 (.cells #[.int .u64 (dgl (c) 0 : Nat), .int .u64 (dgl (c) 1 : Nat), .int .u64 (dgl (c) 2 : Nat), .int .u64 (dgl (c) 3 : Nat), .int .u64 (dgl (c) 4 : Nat), .int .u64 (dgl (c) 5 : Nat), .int .u64 (dgl (c) 6 : Nat), .int .u64 (dgl (c) 7 : Nat)] 24)) (below_allocs _ (.cells #[.int .u64 (dgl (d) 0 : Nat), .int .u64 (dgl (d) 1 : Nat), .int .u64 (dgl (d) 2 : Nat), .int .u64 (dgl (d) 3 : Nat), .int .u64 (dgl (d) 4 : Nat), .int .u64 (dgl (d) 5 : Nat), .int .u64 (dgl (d) 6 : Nat), .int .u64 (dgl (d) 7 : Nat)] 24))
  refine wp_gen (fun W => R2St pa pb a b w W ∧ R2St w3.heap.size (w3.heap.size + 1) c d w W) ⟨HS.out.below hbw, r2_put w w3 c d HS.out.bel _ _⟩ ?_
  clear HS hbw
  rintro W4 h4
  have hl1 := h4.1.lx.1
  have hl2 := h4.1.ly.1
  have hl3 := h4.2.lx.1
  have hl4 := h4.2.ly.1
  have HB := hide h4.1.bel
  clear h4
  go_wp2
  go_ret
  exact ⟨rfl, HB.out⟩
theorem awake12_any (w : World) : Calls Try.prog 35 #[] w fun e w' => e = .returned (.bool true) ∧ Below w.heap.size w w' := by
  have hq : 18446744073709551616 < QQ := by decide +kernel
  have hn : 99 < 2 ^ 256 := by decide +kernel
  have hs2 : ∀ y, y ^ 2 ≤ 99 ↔ y ≤ 9 := by
    obtain ⟨s, hs⟩ := root_ex 2 (by decide) 99
    rw [root_uniq hs (t := 9) (by decide) (by decide)] at hs
    exact hs
  have hs3 : ∀ y, y ^ 3 ≤ 99 ↔ y ≤ 4 := by
    obtain ⟨s, hs⟩ := root_ex 3 (by decide) 99
    rw [root_uniq hs (t := 4) (by decide) (by decide)] at hs
    exact hs
  have key : ∀ x, x < 18446744073709551616 → ∀ w, (Op.equalIn 10000 24 (.agg #[.int .u64 (dgl (x) 0 : Nat), .int .u64 (dgl (x) 1 : Nat), .int .u64 (dgl (x) 2 : Nat), .int .u64 (dgl (x) 3 : Nat), .int .u64 (dgl (x) 4 : Nat), .int .u64 (dgl (x) 5 : Nat), .int .u64 (dgl (x) 6 : Nat), .int .u64 (dgl (x) 7 : Nat)]) (.agg #[.int .u64 (x : Nat), .int .u64 0, .int .u64 0, .int .u64 0, .int .u64 0, .int .u64 0, .int .u64 0, .int .u64 0])).run Try.prog w = .ok true w := fun x hx w => by
    have := wide_lit x x (by omega) hx w
    rw [decide_eq_true rfl] at this
    exact this
  refine awake12_walk 9 18 4 35 (fun w => key 9 (by decide) w) (fun w => key 18 (by decide) w) (fun w => key 4 (by decide) w) (fun w => key 35 (by decide) w) (fun w => ?_) (fun w => ?_) w
  · have h := root_ok 99 9 hn hs2 w
    rw [w8_small 99 (by decide)] at h
    exact h
  · have h := cube_ok 99 4 hn hs3 w
    rw [w8_small 99 (by decide)] at h
    exact h

set_option maxHeartbeats 2000000 in
theorem holds12_E (n x y : Nat) (hx : ∀ w, (Op.equalIn 10000 24 (.agg #[.int .u64 (dgl (x) 0 : Nat), .int .u64 (dgl (x) 1 : Nat), .int .u64 (dgl (x) 2 : Nat), .int .u64 (dgl (x) 3 : Nat), .int .u64 (dgl (x) 4 : Nat), .int .u64 (dgl (x) 5 : Nat), .int .u64 (dgl (x) 6 : Nat), .int .u64 (dgl (x) 7 : Nat)]) (.agg #[.int .u64 0, .int .u64 0, .int .u64 0, .int .u64 0, .int .u64 0, .int .u64 0, .int .u64 0, .int .u64 0])).run Try.prog w = .ok true w)
    (hy : ∀ w, (Op.equalIn 10000 24 (.agg #[.int .u64 (dgl (y) 0 : Nat), .int .u64 (dgl (y) 1 : Nat), .int .u64 (dgl (y) 2 : Nat), .int .u64 (dgl (y) 3 : Nat), .int .u64 (dgl (y) 4 : Nat), .int .u64 (dgl (y) 5 : Nat), .int .u64 (dgl (y) 6 : Nat), .int .u64 (dgl (y) 7 : Nat)]) (.agg #[.int .u64 0, .int .u64 0, .int .u64 0, .int .u64 0, .int .u64 0, .int .u64 0, .int .u64 0, .int .u64 0])).run Try.prog w = .ok true w)
    (HM : Hid (∀ w, Calls Try.prog 37 #[.agg #[.int .u64 (dgl (n) 0 : Nat), .int .u64 (dgl (n) 1 : Nat), .int .u64 (dgl (n) 2 : Nat), .int .u64 (dgl (n) 3 : Nat), .int .u64 (dgl (n) 4 : Nat), .int .u64 (dgl (n) 5 : Nat), .int .u64 (dgl (n) 6 : Nat), .int .u64 (dgl (n) 7 : Nat)]] w fun e w' => e = .returned (.bool false) ∧ Below w.heap.size w w')) (w : World) :
    Calls Try.prog 33 #[.agg #[.int .u64 (dgl (n) 0 : Nat), .int .u64 (dgl (n) 1 : Nat), .int .u64 (dgl (n) 2 : Nat), .int .u64 (dgl (n) 3 : Nat), .int .u64 (dgl (n) 4 : Nat), .int .u64 (dgl (n) 5 : Nat), .int .u64 (dgl (n) 6 : Nat), .int .u64 (dgl (n) 7 : Nat)], .agg #[.int .u64 (dgl (x) 0 : Nat), .int .u64 (dgl (x) 1 : Nat), .int .u64 (dgl (x) 2 : Nat), .int .u64 (dgl (x) 3 : Nat), .int .u64 (dgl (x) 4 : Nat), .int .u64 (dgl (x) 5 : Nat), .int .u64 (dgl (x) 6 : Nat), .int .u64 (dgl (x) 7 : Nat)], .agg #[.int .u64 (dgl (y) 0 : Nat), .int .u64 (dgl (y) 1 : Nat), .int .u64 (dgl (y) 2 : Nat), .int .u64 (dgl (y) 3 : Nat), .int .u64 (dgl (y) 4 : Nat), .int .u64 (dgl (y) 5 : Nat), .int .u64 (dgl (y) 6 : Nat), .int .u64 (dgl (y) 7 : Nat)], .int .i64 4] w fun e w' => e = .returned (.bool true) ∧ Below w.heap.size w w' := by
  have HS0 : Hid (LiesF (((w.alloc (.cells #[.int .u64 (dgl (n) 0 : Nat), .int .u64 (dgl (n) 1 : Nat), .int .u64 (dgl (n) 2 : Nat), .int .u64 (dgl (n) 3 : Nat), .int .u64 (dgl (n) 4 : Nat), .int .u64 (dgl (n) 5 : Nat), .int .u64 (dgl (n) 6 : Nat), .int .u64 (dgl (n) 7 : Nat)] 24)).alloc (.cells #[.int .u64 (dgl (x) 0 : Nat), .int .u64 (dgl (x) 1 : Nat), .int .u64 (dgl (x) 2 : Nat), .int .u64 (dgl (x) 3 : Nat), .int .u64 (dgl (x) 4 : Nat), .int .u64 (dgl (x) 5 : Nat), .int .u64 (dgl (x) 6 : Nat), .int .u64 (dgl (x) 7 : Nat)] 24)).alloc (.cells #[.int .u64 (dgl (y) 0 : Nat), .int .u64 (dgl (y) 1 : Nat), .int .u64 (dgl (y) 2 : Nat), .int .u64 (dgl (y) 3 : Nat), .int .u64 (dgl (y) 4 : Nat), .int .u64 (dgl (y) 5 : Nat), .int .u64 (dgl (y) 6 : Nat), .int .u64 (dgl (y) 7 : Nat)] 24)) w.heap.size (dgl n) ∧
      R2St (w.heap.size + 1) (w.heap.size + 2) x y w (((w.alloc (.cells #[.int .u64 (dgl (n) 0 : Nat), .int .u64 (dgl (n) 1 : Nat), .int .u64 (dgl (n) 2 : Nat), .int .u64 (dgl (n) 3 : Nat), .int .u64 (dgl (n) 4 : Nat), .int .u64 (dgl (n) 5 : Nat), .int .u64 (dgl (n) 6 : Nat), .int .u64 (dgl (n) 7 : Nat)] 24)).alloc (.cells #[.int .u64 (dgl (x) 0 : Nat), .int .u64 (dgl (x) 1 : Nat), .int .u64 (dgl (x) 2 : Nat), .int .u64 (dgl (x) 3 : Nat), .int .u64 (dgl (x) 4 : Nat), .int .u64 (dgl (x) 5 : Nat), .int .u64 (dgl (x) 6 : Nat), .int .u64 (dgl (x) 7 : Nat)] 24)).alloc (.cells #[.int .u64 (dgl (y) 0 : Nat), .int .u64 (dgl (y) 1 : Nat), .int .u64 (dgl (y) 2 : Nat), .int .u64 (dgl (y) 3 : Nat), .int .u64 (dgl (y) 4 : Nat), .int .u64 (dgl (y) 5 : Nat), .int .u64 (dgl (y) 6 : Nat), .int .u64 (dgl (y) 7 : Nat)] 24))) := by
    have h2 := r2_put w _ x y (below_allocs w (.cells #[.int .u64 (dgl (n) 0 : Nat), .int .u64 (dgl (n) 1 : Nat), .int .u64 (dgl (n) 2 : Nat), .int .u64 (dgl (n) 3 : Nat), .int .u64 (dgl (n) 4 : Nat), .int .u64 (dgl (n) 5 : Nat), .int .u64 (dgl (n) 6 : Nat), .int .u64 (dgl (n) 7 : Nat)] 24)) 24 24
    rw [World.size_alloc] at h2
    exact ⟨((liesF_new w (dgl n) 24).alloc _).alloc _, h2⟩
  go_enter Try.func33, Try.ntmps33
  go_upto_region 1 with fail
  refine wp_gen (fun W => LiesF W w.heap.size (dgl n) ∧ R2St (w.heap.size + 1) (w.heap.size + 2) x y w W) HS0.out ?_
  clear HS0
  rintro W2 h2
  have HS := hide h2
  clear h2
  have hca := HS.out.1.1
  have hcx := HS.out.2.lx.1
  have hcy := HS.out.2.ly.1
  go_wp2_with fail
  refine (HM.out _).mono ?_
  rintro e w3 ⟨rfl, hb3⟩
  replace HS := hide (show LiesF w3 w.heap.size (dgl n) ∧ R2St (w.heap.size + 1) (w.heap.size + 2) x y w w3 from ⟨HS.out.1.below hb3, HS.out.2.below hb3⟩)
  clear hb3 hca hcx hcy
  have hcx := HS.out.2.lx.1
  have hcy := HS.out.2.ly.1
  have HB := hide HS.out.2.bel
  clear HS
  go_wp2
  go_ret
  exact ⟨rfl, HB.out⟩

set_option maxHeartbeats 2000000 in
theorem holds12_Y (n x y : Nat) (hx : ∀ w, (Op.equalIn 10000 24 (.agg #[.int .u64 (dgl (x) 0 : Nat), .int .u64 (dgl (x) 1 : Nat), .int .u64 (dgl (x) 2 : Nat), .int .u64 (dgl (x) 3 : Nat), .int .u64 (dgl (x) 4 : Nat), .int .u64 (dgl (x) 5 : Nat), .int .u64 (dgl (x) 6 : Nat), .int .u64 (dgl (x) 7 : Nat)]) (.agg #[.int .u64 (dgl (x) 0 : Nat), .int .u64 (dgl (x) 1 : Nat), .int .u64 (dgl (x) 2 : Nat), .int .u64 (dgl (x) 3 : Nat), .int .u64 (dgl (x) 4 : Nat), .int .u64 (dgl (x) 5 : Nat), .int .u64 (dgl (x) 6 : Nat), .int .u64 (dgl (x) 7 : Nat)])).run Try.prog w = .ok true w)
    (hy : ∀ w, (Op.equalIn 10000 24 (.agg #[.int .u64 (dgl (y) 0 : Nat), .int .u64 (dgl (y) 1 : Nat), .int .u64 (dgl (y) 2 : Nat), .int .u64 (dgl (y) 3 : Nat), .int .u64 (dgl (y) 4 : Nat), .int .u64 (dgl (y) 5 : Nat), .int .u64 (dgl (y) 6 : Nat), .int .u64 (dgl (y) 7 : Nat)]) (.agg #[.int .u64 (dgl (y) 0 : Nat), .int .u64 (dgl (y) 1 : Nat), .int .u64 (dgl (y) 2 : Nat), .int .u64 (dgl (y) 3 : Nat), .int .u64 (dgl (y) 4 : Nat), .int .u64 (dgl (y) 5 : Nat), .int .u64 (dgl (y) 6 : Nat), .int .u64 (dgl (y) 7 : Nat)])).run Try.prog w = .ok true w)
    (HM : Hid (∀ w, Calls Try.prog 37 #[.agg #[.int .u64 (dgl (n) 0 : Nat), .int .u64 (dgl (n) 1 : Nat), .int .u64 (dgl (n) 2 : Nat), .int .u64 (dgl (n) 3 : Nat), .int .u64 (dgl (n) 4 : Nat), .int .u64 (dgl (n) 5 : Nat), .int .u64 (dgl (n) 6 : Nat), .int .u64 (dgl (n) 7 : Nat)]] w fun e w' => e = .returned (.bool true) ∧ Below w.heap.size w w'))
    (HR : Hid (∀ w, Calls Try.prog 38 #[.agg #[.int .u64 (dgl (n) 0 : Nat), .int .u64 (dgl (n) 1 : Nat), .int .u64 (dgl (n) 2 : Nat), .int .u64 (dgl (n) 3 : Nat), .int .u64 (dgl (n) 4 : Nat), .int .u64 (dgl (n) 5 : Nat), .int .u64 (dgl (n) 6 : Nat), .int .u64 (dgl (n) 7 : Nat)], .int .i64 2] w fun e w' => e = .returned (.tuple #[.agg #[.int .u64 (dgl (x) 0 : Nat), .int .u64 (dgl (x) 1 : Nat), .int .u64 (dgl (x) 2 : Nat), .int .u64 (dgl (x) 3 : Nat), .int .u64 (dgl (x) 4 : Nat), .int .u64 (dgl (x) 5 : Nat), .int .u64 (dgl (x) 6 : Nat), .int .u64 (dgl (x) 7 : Nat)], .agg #[.int .u64 (dgl (y) 0 : Nat), .int .u64 (dgl (y) 1 : Nat), .int .u64 (dgl (y) 2 : Nat), .int .u64 (dgl (y) 3 : Nat), .int .u64 (dgl (y) 4 : Nat), .int .u64 (dgl (y) 5 : Nat), .int .u64 (dgl (y) 6 : Nat), .int .u64 (dgl (y) 7 : Nat)]]) ∧ Below w.heap.size w w')) (w : World) :
    Calls Try.prog 33 #[.agg #[.int .u64 (dgl (n) 0 : Nat), .int .u64 (dgl (n) 1 : Nat), .int .u64 (dgl (n) 2 : Nat), .int .u64 (dgl (n) 3 : Nat), .int .u64 (dgl (n) 4 : Nat), .int .u64 (dgl (n) 5 : Nat), .int .u64 (dgl (n) 6 : Nat), .int .u64 (dgl (n) 7 : Nat)], .agg #[.int .u64 (dgl (x) 0 : Nat), .int .u64 (dgl (x) 1 : Nat), .int .u64 (dgl (x) 2 : Nat), .int .u64 (dgl (x) 3 : Nat), .int .u64 (dgl (x) 4 : Nat), .int .u64 (dgl (x) 5 : Nat), .int .u64 (dgl (x) 6 : Nat), .int .u64 (dgl (x) 7 : Nat)], .agg #[.int .u64 (dgl (y) 0 : Nat), .int .u64 (dgl (y) 1 : Nat), .int .u64 (dgl (y) 2 : Nat), .int .u64 (dgl (y) 3 : Nat), .int .u64 (dgl (y) 4 : Nat), .int .u64 (dgl (y) 5 : Nat), .int .u64 (dgl (y) 6 : Nat), .int .u64 (dgl (y) 7 : Nat)], .int .i64 0] w fun e w' => e = .returned (.bool true) ∧ Below w.heap.size w w' := by
  have HS0 : Hid (LiesF (((w.alloc (.cells #[.int .u64 (dgl (n) 0 : Nat), .int .u64 (dgl (n) 1 : Nat), .int .u64 (dgl (n) 2 : Nat), .int .u64 (dgl (n) 3 : Nat), .int .u64 (dgl (n) 4 : Nat), .int .u64 (dgl (n) 5 : Nat), .int .u64 (dgl (n) 6 : Nat), .int .u64 (dgl (n) 7 : Nat)] 24)).alloc (.cells #[.int .u64 (dgl (x) 0 : Nat), .int .u64 (dgl (x) 1 : Nat), .int .u64 (dgl (x) 2 : Nat), .int .u64 (dgl (x) 3 : Nat), .int .u64 (dgl (x) 4 : Nat), .int .u64 (dgl (x) 5 : Nat), .int .u64 (dgl (x) 6 : Nat), .int .u64 (dgl (x) 7 : Nat)] 24)).alloc (.cells #[.int .u64 (dgl (y) 0 : Nat), .int .u64 (dgl (y) 1 : Nat), .int .u64 (dgl (y) 2 : Nat), .int .u64 (dgl (y) 3 : Nat), .int .u64 (dgl (y) 4 : Nat), .int .u64 (dgl (y) 5 : Nat), .int .u64 (dgl (y) 6 : Nat), .int .u64 (dgl (y) 7 : Nat)] 24)) w.heap.size (dgl n) ∧
      R2St (w.heap.size + 1) (w.heap.size + 2) x y w (((w.alloc (.cells #[.int .u64 (dgl (n) 0 : Nat), .int .u64 (dgl (n) 1 : Nat), .int .u64 (dgl (n) 2 : Nat), .int .u64 (dgl (n) 3 : Nat), .int .u64 (dgl (n) 4 : Nat), .int .u64 (dgl (n) 5 : Nat), .int .u64 (dgl (n) 6 : Nat), .int .u64 (dgl (n) 7 : Nat)] 24)).alloc (.cells #[.int .u64 (dgl (x) 0 : Nat), .int .u64 (dgl (x) 1 : Nat), .int .u64 (dgl (x) 2 : Nat), .int .u64 (dgl (x) 3 : Nat), .int .u64 (dgl (x) 4 : Nat), .int .u64 (dgl (x) 5 : Nat), .int .u64 (dgl (x) 6 : Nat), .int .u64 (dgl (x) 7 : Nat)] 24)).alloc (.cells #[.int .u64 (dgl (y) 0 : Nat), .int .u64 (dgl (y) 1 : Nat), .int .u64 (dgl (y) 2 : Nat), .int .u64 (dgl (y) 3 : Nat), .int .u64 (dgl (y) 4 : Nat), .int .u64 (dgl (y) 5 : Nat), .int .u64 (dgl (y) 6 : Nat), .int .u64 (dgl (y) 7 : Nat)] 24))) := by
    have h2 := r2_put w _ x y (below_allocs w (.cells #[.int .u64 (dgl (n) 0 : Nat), .int .u64 (dgl (n) 1 : Nat), .int .u64 (dgl (n) 2 : Nat), .int .u64 (dgl (n) 3 : Nat), .int .u64 (dgl (n) 4 : Nat), .int .u64 (dgl (n) 5 : Nat), .int .u64 (dgl (n) 6 : Nat), .int .u64 (dgl (n) 7 : Nat)] 24)) 24 24
    rw [World.size_alloc] at h2
    exact ⟨((liesF_new w (dgl n) 24).alloc _).alloc _, h2⟩
  go_enter Try.func33, Try.ntmps33
  go_upto_region 1 with fail
  refine wp_gen (fun W => LiesF W w.heap.size (dgl n) ∧ R2St (w.heap.size + 1) (w.heap.size + 2) x y w W) HS0.out ?_
  clear HS0
  rintro W2 h2
  have HS := hide h2
  clear h2
  have hca := HS.out.1.1
  have hcx := HS.out.2.lx.1
  have hcy := HS.out.2.ly.1
  go_wp2_with fail
  refine (HM.out _).mono ?_
  rintro e w3 ⟨rfl, hb3⟩
  replace HS := hide (show LiesF w3 w.heap.size (dgl n) ∧ R2St (w.heap.size + 1) (w.heap.size + 2) x y w w3 from ⟨HS.out.1.below hb3, HS.out.2.below hb3⟩)
  clear hb3 hca hcx hcy
  have hca := HS.out.1.1
  have hcx := HS.out.2.lx.1
  have hcy := HS.out.2.ly.1
  go_wp2_with fail
  refine (HR.out _).mono ?_
  rintro e w4 ⟨rfl, hb4⟩
  replace HS := hide (show LiesF w4 w.heap.size (dgl n) ∧ R2St (w.heap.size + 1) (w.heap.size + 2) x y w w4 from ⟨HS.out.1.below hb4, HS.out.2.below hb4⟩)
  clear hb4 hca hcx hcy
  go_upto_region 4 with fail
  have hbw := below_trans (below_allocs w4 (.cells #[.int .u64 (dgl (x) 0 : Nat), .int .u64 (dgl (x) 1 : Nat), .int .u64 (dgl (x) 2 : Nat), .int .u64 (dgl (x) 3 : Nat), .int .u64 (dgl (x) 4 : Nat), .int .u64 (dgl (x) 5 : Nat), .int .u64 (dgl (x) 6 : Nat), .int .u64 (dgl (x) 7 : Nat)] 24)) (below_allocs _ (.cells #[.int .u64 (dgl (y) 0 : Nat), .int .u64 (dgl (y) 1 : Nat), .int .u64 (dgl (y) 2 : Nat), .int .u64 (dgl (y) 3 : Nat), .int .u64 (dgl (y) 4 : Nat), .int .u64 (dgl (y) 5 : Nat), .int .u64 (dgl (y) 6 : Nat), .int .u64 (dgl (y) 7 : Nat)] 24))
  refine wp_gen (fun W => R2St (w.heap.size + 1) (w.heap.size + 2) x y w W ∧ R2St w4.heap.size (w4.heap.size + 1) x y w W) ⟨HS.out.2.below hbw, r2_put w w4 x y HS.out.2.bel _ _⟩ ?_
  clear HS hbw
  rintro W5 h5
  have hl1 := h5.1.lx.1
  have hl2 := h5.1.ly.1
  have hm1 := h5.2.lx.1
  have hm2 := h5.2.ly.1
  have HB := hide h5.2.bel
  clear h5
  go_wp2
  go_ret
  exact ⟨rfl, HB.out⟩

end Go.Proofs.Ytmbbhagjfgjhgaa

