/- For every two matrices, every right pixel and every row but the last: with the row of the first laid into the other one, and full alpha behind both, both make the same of the pixel in that row; no condition. -/
import Derived.Test.YtageofpkfghllaaRows
import Derived.WalkKit
import Derived.ProofKit
import Derived.OpenShut
import Derived.Test.YtageofpkfghllaaOpenI
import Derived.Test.YtageofpkfghllaaOpenPx
import Derived.Test.YtageofpkfghllaaTwo
namespace Go.Proofs.Ytageofpkfghllaa.tintRows
open Go.ChangeShapes Go.WideShapes Go.ChangeAt Go.RowKit Num
set_option linter.unusedVariables false
set_option linter.unusedSimpArgs false

attribute [local go_sem] eq4_same
attribute [local go_sem ↓] run_app
attribute [local go_sem] lenV_slice
attribute [local go_sem ↓] Go.wp_at_zero Go.wp_at_succ

set_option maxRecDepth 100000 in
set_option maxHeartbeats 4000000 in
theorem walk0 (ao : Option Addr) (n c b off : Nat) (l : List Int) (ao2 : Option Addr) (n2 c2 b2 off2 : Nat) (l2 : List Int) (r g s a row : Int) (w : World) (h : Vi w ao n c b off l) (h2 : Vi w ao2 n2 c2 b2 off2 l2) (hr : 0 ≤ r ∧ r ≤ 255) (hg : 0 ≤ g ∧ g ≤ 255) (hs : 0 ≤ s ∧ s ≤ 255) (ha : 0 ≤ a ∧ a ≤ 255) (hrow : 0 ≤ row ∧ row ≤ 255) (hN : n ≤ 100) (hN2 : n2 ≤ 100) (hM : rightM l = true) (hM2 : rightM l2 = true) (hR : rightB r g s a = true) (hk : row % 3 = 0) :
    Calls Try.prog 5 #[.slice ao n c, .slice ao2 n2 c2, .agg #[.int .u8 r, .int .u8 g, .int .u8 s, .int .u8 a], .int .u8 row] w fun e w' => e = .returned (.bool true) ∧ Below w.heap.size w w' := by
  obtain rfl : n = 20 := by rw [← vi_len h]; exact right_len hM
  obtain rfl : n2 = 20 := by rw [← vi_len h2]; exact right_len hM2
  obtain rfl := h.addr (by have := h.le; omega)
  obtain rfl := h2.addr (by have := h2.le; omega)
  have hc : 20 ≤ c := h.le
  have hcm : c ≤ 9223372036854775807 := h.max
  have HV := hid h
  have HV2 := hid h2
  have HM := hid hM
  have HM2 := hid hM2
  have HR := hid hR
  clear h h2 hM hM2 hR hN hN2
  have hS := s1_new w (.int .u8 r) (.int .u8 g) (.int .u8 s) (.int .u8 a) 24
  have hX0 := index0
  have hX1 := index1
  have hX2 := index2
  go_enter Try.func5, Try.ntmps5
  go_wp2_with (first | (go_at_call 10; with_reducible refine Calls.mono (refMRight_any _ _ c b off l _ (HV.out.below (s1_out hS))) ?_; rintro e wc ⟨rfl, hb⟩; rw [HM.out]; replace hS := s1_below hS hb; clear hb; obtain ⟨⟨p0, p1, p2, p3⟩, hB⟩ := id hS) | (go_at_call 10; with_reducible refine Calls.mono (refMRight_any _ _ c2 b2 off2 l2 _ (HV2.out.below (s1_out hS))) ?_; rintro e wc ⟨rfl, hb⟩; rw [HM2.out]; replace hS := s1_below hS hb; clear hb; obtain ⟨⟨p0, p1, p2, p3⟩, hB⟩ := id hS) | (go_at_call 11; with_reducible refine Calls.mono (refRight_b _ _ _ _ _ ‹_› ‹_› ‹_› ‹_›) ?_; rintro e wc ⟨rfl, hb⟩; rw [HR.out]; replace hS := s1_below hS hb; clear hb; obtain ⟨⟨p0, p1, p2, p3⟩, hB⟩ := id hS; obtain ⟨b', off', hA⟩ := app_copy0 (HV2.out.below (s1_out hS)) (by omega); have hF : Fine Try.prog #[22, 22] 22 wc (.slice none 0 0) (.slice (some ⟨b2, off2, none⟩) 20 c2) 20 := hA.fine; have HA := hid hA; clear hA))
  have hO := oi_copy HA.out
  have hlow := HA.out.below
  have hTw : w.heap.size < wc.heap.size := World.block_lt_of_cell? wc ⟨w.heap.size, 0, none⟩ p0
  replace hS := s1_below hS hlow
  clear HA hF hlow p0 p1 p2 p3 hB
  generalize (apA Try.prog #[22, 22] 22 wc (.slice none 0 0) (.slice (some ⟨b2, off2, none⟩) 20 c2)) = lo at hO ⊢
  generalize (apC Try.prog #[22, 22] 22 wc (.slice none 0 0) (.slice (some ⟨b2, off2, none⟩) 20 c2)) = lc at hO ⊢
  generalize (apW Try.prog #[22, 22] 22 wc (.slice none 0 0) (.slice (some ⟨b2, off2, none⟩) 20 c2)) = W0 at hO hS ⊢
  obtain rfl := hO.v.addr (by have := hO.v.le; omega)
  have hlc := hO.v.le
  have hlm : lc ≤ 9223372036854775807 := hO.v.max
  obtain ⟨hTl, -⟩ := hO.new (by omega)
  obtain ⟨T, hT⟩ : ∃ T, T = wc.heap.size := ⟨_, rfl⟩
  rw [← hT] at hO hTl hTw
  clear hT
  refine wp_loop_rounds 6 ?_
  have s0 : W0.cell? ⟨b', off', none⟩ = some (.int .i64 (nth l2 0)) := (oi_at hO (i := 0) (by omega)).1
  have s1 : W0.frozen? ⟨b', off', none⟩ = false := (oi_at hO (i := 0) (by omega)).2
  have m0 : W0.cell? ⟨b, off, none⟩ = some (.int .i64 (nth l 0)) := vi_nth (HV.out.below (s1_out hS)) (i := 0) (by omega)
  rw [rounds_succ]
  go_wp2
  replace hO : Oi T (W0.setCell ⟨b', off', none⟩ (.int .i64 (nth l 0))) (some ⟨b', off', none⟩) 20 lc b' off' (l2.set 0 (nth l 0)) := oi_set hO (i := 0) (by omega) (nth l 0)
  replace hS := s1_set hS (k := b') (by omega) (by omega) (off') (.int .i64 (nth l 0))
  clear s0 s1 m0
  generalize (W0.setCell ⟨b', off', none⟩ (.int .i64 (nth l 0))) = W1 at hO hS ⊢
  have s0 : W1.cell? ⟨b', off' + 1, none⟩ = some (.int .i64 (nth (l2.set 0 (nth l 0)) 1)) := (oi_at hO (i := 1) (by omega)).1
  have s1 : W1.frozen? ⟨b', off' + 1, none⟩ = false := (oi_at hO (i := 1) (by omega)).2
  have m0 : W1.cell? ⟨b, off + 1, none⟩ = some (.int .i64 (nth l 1)) := vi_nth (HV.out.below (s1_out hS)) (i := 1) (by omega)
  rw [rounds_succ]
  go_wp2
  replace hO : Oi T (W1.setCell ⟨b', off' + 1, none⟩ (.int .i64 (nth l 1))) (some ⟨b', off', none⟩) 20 lc b' off' ((l2.set 0 (nth l 0)).set 1 (nth l 1)) := oi_set hO (i := 1) (by omega) (nth l 1)
  replace hS := s1_set hS (k := b') (by omega) (by omega) (off' + 1) (.int .i64 (nth l 1))
  clear s0 s1 m0
  generalize (W1.setCell ⟨b', off' + 1, none⟩ (.int .i64 (nth l 1))) = W2 at hO hS ⊢
  have s0 : W2.cell? ⟨b', off' + 2, none⟩ = some (.int .i64 (nth ((l2.set 0 (nth l 0)).set 1 (nth l 1)) 2)) := (oi_at hO (i := 2) (by omega)).1
  have s1 : W2.frozen? ⟨b', off' + 2, none⟩ = false := (oi_at hO (i := 2) (by omega)).2
  have m0 : W2.cell? ⟨b, off + 2, none⟩ = some (.int .i64 (nth l 2)) := vi_nth (HV.out.below (s1_out hS)) (i := 2) (by omega)
  rw [rounds_succ]
  go_wp2
  replace hO : Oi T (W2.setCell ⟨b', off' + 2, none⟩ (.int .i64 (nth l 2))) (some ⟨b', off', none⟩) 20 lc b' off' (((l2.set 0 (nth l 0)).set 1 (nth l 1)).set 2 (nth l 2)) := oi_set hO (i := 2) (by omega) (nth l 2)
  replace hS := s1_set hS (k := b') (by omega) (by omega) (off' + 2) (.int .i64 (nth l 2))
  clear s0 s1 m0
  generalize (W2.setCell ⟨b', off' + 2, none⟩ (.int .i64 (nth l 2))) = W3 at hO hS ⊢
  have s0 : W3.cell? ⟨b', off' + 3, none⟩ = some (.int .i64 (nth (((l2.set 0 (nth l 0)).set 1 (nth l 1)).set 2 (nth l 2)) 3)) := (oi_at hO (i := 3) (by omega)).1
  have s1 : W3.frozen? ⟨b', off' + 3, none⟩ = false := (oi_at hO (i := 3) (by omega)).2
  have m0 : W3.cell? ⟨b, off + 3, none⟩ = some (.int .i64 (nth l 3)) := vi_nth (HV.out.below (s1_out hS)) (i := 3) (by omega)
  rw [rounds_succ]
  go_wp2
  replace hO : Oi T (W3.setCell ⟨b', off' + 3, none⟩ (.int .i64 (nth l 3))) (some ⟨b', off', none⟩) 20 lc b' off' ((((l2.set 0 (nth l 0)).set 1 (nth l 1)).set 2 (nth l 2)).set 3 (nth l 3)) := oi_set hO (i := 3) (by omega) (nth l 3)
  replace hS := s1_set hS (k := b') (by omega) (by omega) (off' + 3) (.int .i64 (nth l 3))
  clear s0 s1 m0
  generalize (W3.setCell ⟨b', off' + 3, none⟩ (.int .i64 (nth l 3))) = W4 at hO hS ⊢
  have s0 : W4.cell? ⟨b', off' + 4, none⟩ = some (.int .i64 (nth ((((l2.set 0 (nth l 0)).set 1 (nth l 1)).set 2 (nth l 2)).set 3 (nth l 3)) 4)) := (oi_at hO (i := 4) (by omega)).1
  have s1 : W4.frozen? ⟨b', off' + 4, none⟩ = false := (oi_at hO (i := 4) (by omega)).2
  have m0 : W4.cell? ⟨b, off + 4, none⟩ = some (.int .i64 (nth l 4)) := vi_nth (HV.out.below (s1_out hS)) (i := 4) (by omega)
  rw [rounds_succ]
  go_wp2
  replace hO : Oi T (W4.setCell ⟨b', off' + 4, none⟩ (.int .i64 (nth l 4))) (some ⟨b', off', none⟩) 20 lc b' off' (((((l2.set 0 (nth l 0)).set 1 (nth l 1)).set 2 (nth l 2)).set 3 (nth l 3)).set 4 (nth l 4)) := oi_set hO (i := 4) (by omega) (nth l 4)
  replace hS := s1_set hS (k := b') (by omega) (by omega) (off' + 4) (.int .i64 (nth l 4))
  clear s0 s1 m0
  generalize (W4.setCell ⟨b', off' + 4, none⟩ (.int .i64 (nth l 4))) = W5 at hO hS ⊢
  obtain ⟨L, hL⟩ : ∃ L, L = (((((l2.set 0 (nth l 0)).set 1 (nth l 1)).set 2 (nth l 2)).set 3 (nth l 3)).set 4 (nth l 4)) := ⟨_, rfl⟩
  rw [← hL] at hO
  have HL := hid hL
  clear hL
  obtain ⟨ba, offa, hA⟩ := app_copy (vi_take (HV.out.below (s1_out hS)) (k := 15) (by omega)) (by omega)
  have hOa := oi_copy hA
  have hla := app_low hA
  have hFa : Fine Try.prog #[22, 22] 22 (W5.alloc (.cells #[] 3)) (.slice (some ⟨W5.heap.size, 0, none⟩) 0 0) (.slice (some ⟨b, off, none⟩) 15 c) 15 := hA.fine
  obtain ⟨bb, offb, hB'⟩ := app_copy (vi_take (hO.below hla).v (k := 15) (by omega)) (by omega)
  have hOb := oi_copy hB'
  have hlb := app_low hB'
  have hFb : Fine Try.prog #[22, 22] 22 ((apW Try.prog #[22, 22] 22 (W5.alloc (.cells #[] 3)) (.slice (some ⟨W5.heap.size, 0, none⟩) 0 0) (.slice (some ⟨b, off, none⟩) 15 c)).alloc (.cells #[] 3)) (.slice (some ⟨(apW Try.prog #[22, 22] 22 (W5.alloc (.cells #[] 3)) (.slice (some ⟨W5.heap.size, 0, none⟩) 0 0) (.slice (some ⟨b, off, none⟩) 15 c)).heap.size, 0, none⟩) 0 0) (.slice (some ⟨b', off', none⟩) 15 lc) 15 := hB'.fine
  clear hA hB'
  have t0 : ∀ w : World, (Instr.slice 22 (.slice (some ⟨b, off, none⟩) 20 c) none (some (.int .i64 15)) none).run Try.prog w = .ok (.slice (some ⟨b, off, none⟩) 15 c) w := cutTo c b off hc
  have t1 : ∀ w : World, (Instr.slice 22 (.slice (some ⟨b', off', none⟩) 20 lc) none (some (.int .i64 15)) none).run Try.prog w = .ok (.slice (some ⟨b', off', none⟩) 15 lc) w := cutTo lc b' off' hlc
  have t2 : ∀ w : World, (Instr.sliceAt 22 (.slice (some ⟨b, off, none⟩) 20 c) none (some (.int .i64 15)) none).run Try.prog w = .ok (.slice (some ⟨b, off, none⟩) 15 c) w := cutTo' c b off hc
  have t3 : ∀ w : World, (Instr.sliceAt 22 (.slice (some ⟨b', off', none⟩) 20 lc) none (some (.int .i64 15)) none).run Try.prog w = .ok (.slice (some ⟨b', off', none⟩) 15 lc) w := cutTo' lc b' off' hlc
  have hTwo := two_mk hOa hOb hla hlb
  have hS9 := s1_below (s1_below (s1_below hS hla) hlb) ((Below.refl _ _).alloc (Nat.le_refl _) (.cells #[.int .i64 0, .int .i64 0, .int .i64 0, .int .i64 0, .int .i64 256] 3))
  have hlt : w.heap.size < W5.heap.size ∧ w.heap.size ≤ W5.heap.size := by
    have : w.heap.size < W5.heap.size := World.block_lt_of_cell? W5 ⟨w.heap.size, 0, none⟩ hS.1.1
    omega
  have hlen : l.length = 20 := vi_len HV.out
  have hlen2 : l2.length = 20 := vi_len HV2.out
  have hLen : L.length = 20 := vi_len hO.v
  have hRB : rightM L = true := by rw [HL.out]; exact right_set (right_set (right_set (right_set (right_set (HM2.out) 0 (right_ok HM.out (by omega))) 1 (right_ok HM.out (by omega))) 2 (right_ok HM.out (by omega))) 3 (right_ok HM.out (by omega))) 4 (right_ok HM.out (by omega))
  have HEq : Hid (colI (l.take 15 ++ fullL) 0 r g s a = colI (L.take 15 ++ fullL) 0 r g s a) := by
    refine col_same (fun i hi => ?_) (fun r g s a => by rw [alpha_full hlen, alpha_full hLen]) r g s a
    rw [nth_app (by rw [len_put hlen]; omega), nth_app (by rw [len_put hLen]; omega), nth_take (by omega), nth_take (by omega), HL.out]
    match i, hi with
    | 0, _ => show nth l 0 = nth _ 0; rw [nth_ne (by omega) _, nth_ne (by omega) _, nth_ne (by omega) _, nth_ne (by omega) _, nth_same (by simp [hlen2]) _]
    | 1, _ => show nth l 1 = nth _ 1; rw [nth_ne (by omega) _, nth_ne (by omega) _, nth_ne (by omega) _, nth_same (by simp [hlen2]) _]
    | 2, _ => show nth l 2 = nth _ 2; rw [nth_ne (by omega) _, nth_ne (by omega) _, nth_same (by simp [hlen2]) _]
    | 3, _ => show nth l 3 = nth _ 3; rw [nth_ne (by omega) _, nth_same (by simp [hlen2]) _]
    | 4, _ => show nth l 4 = nth _ 4; rw [nth_same (by simp [hlen2]) _]
  have HRA := hid (right_put HM.out)
  have HRB := hid (right_put hRB)
  clear hRB hlen hlen2 hLen HL hla hlb hOa hOb
  rw [rounds_succ]
  go_wp2
  clear hFa hFb t0 t1 t2 t3 hO hS
  generalize (apA Try.prog #[22, 22] 22 ((apW Try.prog #[22, 22] 22 (W5.alloc (.cells #[] 3)) (.slice (some ⟨W5.heap.size, 0, none⟩) 0 0) (.slice (some ⟨b, off, none⟩) 15 c)).alloc (.cells #[] 3)) (.slice (some ⟨(apW Try.prog #[22, 22] 22 (W5.alloc (.cells #[] 3)) (.slice (some ⟨W5.heap.size, 0, none⟩) 0 0) (.slice (some ⟨b, off, none⟩) 15 c)).heap.size, 0, none⟩) 0 0) (.slice (some ⟨b', off', none⟩) 15 lc)) = bA at hTwo ⊢
  generalize (apC Try.prog #[22, 22] 22 ((apW Try.prog #[22, 22] 22 (W5.alloc (.cells #[] 3)) (.slice (some ⟨W5.heap.size, 0, none⟩) 0 0) (.slice (some ⟨b, off, none⟩) 15 c)).alloc (.cells #[] 3)) (.slice (some ⟨(apW Try.prog #[22, 22] 22 (W5.alloc (.cells #[] 3)) (.slice (some ⟨W5.heap.size, 0, none⟩) 0 0) (.slice (some ⟨b, off, none⟩) 15 c)).heap.size, 0, none⟩) 0 0) (.slice (some ⟨b', off', none⟩) 15 lc)) = bC at hTwo ⊢
  generalize (apW Try.prog #[22, 22] 22 ((apW Try.prog #[22, 22] 22 (W5.alloc (.cells #[] 3)) (.slice (some ⟨W5.heap.size, 0, none⟩) 0 0) (.slice (some ⟨b, off, none⟩) 15 c)).alloc (.cells #[] 3)) (.slice (some ⟨(apW Try.prog #[22, 22] 22 (W5.alloc (.cells #[] 3)) (.slice (some ⟨W5.heap.size, 0, none⟩) 0 0) (.slice (some ⟨b, off, none⟩) 15 c)).heap.size, 0, none⟩) 0 0) (.slice (some ⟨b', off', none⟩) 15 lc)) = W7 at hTwo hS9 ⊢
  generalize (apA Try.prog #[22, 22] 22 (W5.alloc (.cells #[] 3)) (.slice (some ⟨W5.heap.size, 0, none⟩) 0 0) (.slice (some ⟨b, off, none⟩) 15 c)) = aA at hTwo ⊢
  generalize (apC Try.prog #[22, 22] 22 (W5.alloc (.cells #[] 3)) (.slice (some ⟨W5.heap.size, 0, none⟩) 0 0) (.slice (some ⟨b, off, none⟩) 15 c)) = aC at hTwo ⊢
  generalize W7.alloc (.cells #[.int .i64 0, .int .i64 0, .int .i64 0, .int .i64 0, .int .i64 256] 3) = W9 at hTwo hS9 ⊢
  generalize W7.heap.size = kf at hTwo ⊢
  generalize W5.heap.size = lo at hTwo hlt
  obtain ⟨A, hA⟩ : ∃ A, A = l.take 15 ++ fullL := ⟨_, rfl⟩
  obtain ⟨B, hB'⟩ : ∃ B, B = L.take 15 ++ fullL := ⟨_, rfl⟩
  have hEq := HEq.out
  rw [← hA, ← hB'] at hEq
  rw [← hA] at HRA
  rw [← hB'] at HRB
  have HAB := hid (And.intro hA hB')
  have HT := hid hTwo
  clear HEq hA hB' hTwo
  go_region_held3 (fun w' => (w'.cell? ⟨w.heap.size, 0, none⟩ = some (.int .u8 r) ∧ w'.cell? ⟨w.heap.size, 1, none⟩ = some (.int .u8 g) ∧ w'.cell? ⟨w.heap.size, 2, none⟩ = some (.int .u8 s) ∧ w'.cell? ⟨w.heap.size, 3, none⟩ = some (.int .u8 a)) ∧ Kept w w') (repeat (first | with_reducible assumption | with_reducible refine s1_drew ?_ | with_reducible refine s1_below ?_ ‹_› | with_reducible refine s1_low hlt ?_ ‹_›))
    ((first
      | (go_at_call 8; with_reducible refine Calls.mono (awake_any _) ?_; rintro e w1 ⟨rfl, hb1⟩; have HT1 := hid ((HT.out.below (Below.refl _ _).drew).below hb1); obtain ⟨⟨bx, offx, hP1⟩, hO1⟩ := two_put HT1.out; have hF1 := hP1.fine; have hl1 := hP1.low; have HO1 := hid hO1; have HP1 := hid (put_own HAB.out.1 hP1); clear hP1 hO1)
      | (go_at_call 12; with_reducible refine Calls.mono (pixel_any _ _ _ bx offx A _ _ _ _ _ HP1.out.v HRA.out ‹_› ‹_› ‹_› ‹_›) ?_; rintro e w2 ⟨rfl, hb2⟩; obtain ⟨bz, offy, hP2⟩ := one_put (HO1.out.below hb2); have hF2 := hP2.fine; have hl2 := hP2.low; have HP2 := hid (put_own HAB.out.2 hP2); clear hP2)
      | (go_at_call 12; with_reducible refine Calls.mono (pixel_any _ _ _ bz offy B _ _ _ _ _ HP2.out.v HRB.out ‹_› ‹_› ‹_› ‹_›) ?_; rintro e w3 ⟨rfl, hb3⟩)))
  all_goals
    go_wp2
    go_ret
    exact ⟨rfl, s1_out (p := w.heap.size) (v0 := .int .u8 r) (v1 := .int .u8 g) (v2 := .int .u8 s) (v3 := .int .u8 a) (by with_reducible assumption)⟩

set_option maxRecDepth 100000 in
set_option maxHeartbeats 4000000 in
theorem walk1 (ao : Option Addr) (n c b off : Nat) (l : List Int) (ao2 : Option Addr) (n2 c2 b2 off2 : Nat) (l2 : List Int) (r g s a row : Int) (w : World) (h : Vi w ao n c b off l) (h2 : Vi w ao2 n2 c2 b2 off2 l2) (hr : 0 ≤ r ∧ r ≤ 255) (hg : 0 ≤ g ∧ g ≤ 255) (hs : 0 ≤ s ∧ s ≤ 255) (ha : 0 ≤ a ∧ a ≤ 255) (hrow : 0 ≤ row ∧ row ≤ 255) (hN : n ≤ 100) (hN2 : n2 ≤ 100) (hM : rightM l = true) (hM2 : rightM l2 = true) (hR : rightB r g s a = true) (hk : row % 3 = 1) :
    Calls Try.prog 5 #[.slice ao n c, .slice ao2 n2 c2, .agg #[.int .u8 r, .int .u8 g, .int .u8 s, .int .u8 a], .int .u8 row] w fun e w' => e = .returned (.bool true) ∧ Below w.heap.size w w' := by
  obtain rfl : n = 20 := by rw [← vi_len h]; exact right_len hM
  obtain rfl : n2 = 20 := by rw [← vi_len h2]; exact right_len hM2
  obtain rfl := h.addr (by have := h.le; omega)
  obtain rfl := h2.addr (by have := h2.le; omega)
  have hc : 20 ≤ c := h.le
  have hcm : c ≤ 9223372036854775807 := h.max
  have HV := hid h
  have HV2 := hid h2
  have HM := hid hM
  have HM2 := hid hM2
  have HR := hid hR
  clear h h2 hM hM2 hR hN hN2
  have hS := s1_new w (.int .u8 r) (.int .u8 g) (.int .u8 s) (.int .u8 a) 24
  have hX0 := index0
  have hX1 := index1
  have hX2 := index2
  go_enter Try.func5, Try.ntmps5
  go_wp2_with (first | (go_at_call 10; with_reducible refine Calls.mono (refMRight_any _ _ c b off l _ (HV.out.below (s1_out hS))) ?_; rintro e wc ⟨rfl, hb⟩; rw [HM.out]; replace hS := s1_below hS hb; clear hb; obtain ⟨⟨p0, p1, p2, p3⟩, hB⟩ := id hS) | (go_at_call 10; with_reducible refine Calls.mono (refMRight_any _ _ c2 b2 off2 l2 _ (HV2.out.below (s1_out hS))) ?_; rintro e wc ⟨rfl, hb⟩; rw [HM2.out]; replace hS := s1_below hS hb; clear hb; obtain ⟨⟨p0, p1, p2, p3⟩, hB⟩ := id hS) | (go_at_call 11; with_reducible refine Calls.mono (refRight_b _ _ _ _ _ ‹_› ‹_› ‹_› ‹_›) ?_; rintro e wc ⟨rfl, hb⟩; rw [HR.out]; replace hS := s1_below hS hb; clear hb; obtain ⟨⟨p0, p1, p2, p3⟩, hB⟩ := id hS; obtain ⟨b', off', hA⟩ := app_copy0 (HV2.out.below (s1_out hS)) (by omega); have hF : Fine Try.prog #[22, 22] 22 wc (.slice none 0 0) (.slice (some ⟨b2, off2, none⟩) 20 c2) 20 := hA.fine; have HA := hid hA; clear hA))
  have hO := oi_copy HA.out
  have hlow := HA.out.below
  have hTw : w.heap.size < wc.heap.size := World.block_lt_of_cell? wc ⟨w.heap.size, 0, none⟩ p0
  replace hS := s1_below hS hlow
  clear HA hF hlow p0 p1 p2 p3 hB
  generalize (apA Try.prog #[22, 22] 22 wc (.slice none 0 0) (.slice (some ⟨b2, off2, none⟩) 20 c2)) = lo at hO ⊢
  generalize (apC Try.prog #[22, 22] 22 wc (.slice none 0 0) (.slice (some ⟨b2, off2, none⟩) 20 c2)) = lc at hO ⊢
  generalize (apW Try.prog #[22, 22] 22 wc (.slice none 0 0) (.slice (some ⟨b2, off2, none⟩) 20 c2)) = W0 at hO hS ⊢
  obtain rfl := hO.v.addr (by have := hO.v.le; omega)
  have hlc := hO.v.le
  have hlm : lc ≤ 9223372036854775807 := hO.v.max
  obtain ⟨hTl, -⟩ := hO.new (by omega)
  obtain ⟨T, hT⟩ : ∃ T, T = wc.heap.size := ⟨_, rfl⟩
  rw [← hT] at hO hTl hTw
  clear hT
  refine wp_loop_rounds 6 ?_
  have s0 : W0.cell? ⟨b', off' + 5, none⟩ = some (.int .i64 (nth l2 5)) := (oi_at hO (i := 5) (by omega)).1
  have s1 : W0.frozen? ⟨b', off' + 5, none⟩ = false := (oi_at hO (i := 5) (by omega)).2
  have m0 : W0.cell? ⟨b, off + 5, none⟩ = some (.int .i64 (nth l 5)) := vi_nth (HV.out.below (s1_out hS)) (i := 5) (by omega)
  rw [rounds_succ]
  go_wp2
  replace hO : Oi T (W0.setCell ⟨b', off' + 5, none⟩ (.int .i64 (nth l 5))) (some ⟨b', off', none⟩) 20 lc b' off' (l2.set 5 (nth l 5)) := oi_set hO (i := 5) (by omega) (nth l 5)
  replace hS := s1_set hS (k := b') (by omega) (by omega) (off' + 5) (.int .i64 (nth l 5))
  clear s0 s1 m0
  generalize (W0.setCell ⟨b', off' + 5, none⟩ (.int .i64 (nth l 5))) = W1 at hO hS ⊢
  have s0 : W1.cell? ⟨b', off' + 6, none⟩ = some (.int .i64 (nth (l2.set 5 (nth l 5)) 6)) := (oi_at hO (i := 6) (by omega)).1
  have s1 : W1.frozen? ⟨b', off' + 6, none⟩ = false := (oi_at hO (i := 6) (by omega)).2
  have m0 : W1.cell? ⟨b, off + 6, none⟩ = some (.int .i64 (nth l 6)) := vi_nth (HV.out.below (s1_out hS)) (i := 6) (by omega)
  rw [rounds_succ]
  go_wp2
  replace hO : Oi T (W1.setCell ⟨b', off' + 6, none⟩ (.int .i64 (nth l 6))) (some ⟨b', off', none⟩) 20 lc b' off' ((l2.set 5 (nth l 5)).set 6 (nth l 6)) := oi_set hO (i := 6) (by omega) (nth l 6)
  replace hS := s1_set hS (k := b') (by omega) (by omega) (off' + 6) (.int .i64 (nth l 6))
  clear s0 s1 m0
  generalize (W1.setCell ⟨b', off' + 6, none⟩ (.int .i64 (nth l 6))) = W2 at hO hS ⊢
  have s0 : W2.cell? ⟨b', off' + 7, none⟩ = some (.int .i64 (nth ((l2.set 5 (nth l 5)).set 6 (nth l 6)) 7)) := (oi_at hO (i := 7) (by omega)).1
  have s1 : W2.frozen? ⟨b', off' + 7, none⟩ = false := (oi_at hO (i := 7) (by omega)).2
  have m0 : W2.cell? ⟨b, off + 7, none⟩ = some (.int .i64 (nth l 7)) := vi_nth (HV.out.below (s1_out hS)) (i := 7) (by omega)
  rw [rounds_succ]
  go_wp2
  replace hO : Oi T (W2.setCell ⟨b', off' + 7, none⟩ (.int .i64 (nth l 7))) (some ⟨b', off', none⟩) 20 lc b' off' (((l2.set 5 (nth l 5)).set 6 (nth l 6)).set 7 (nth l 7)) := oi_set hO (i := 7) (by omega) (nth l 7)
  replace hS := s1_set hS (k := b') (by omega) (by omega) (off' + 7) (.int .i64 (nth l 7))
  clear s0 s1 m0
  generalize (W2.setCell ⟨b', off' + 7, none⟩ (.int .i64 (nth l 7))) = W3 at hO hS ⊢
  have s0 : W3.cell? ⟨b', off' + 8, none⟩ = some (.int .i64 (nth (((l2.set 5 (nth l 5)).set 6 (nth l 6)).set 7 (nth l 7)) 8)) := (oi_at hO (i := 8) (by omega)).1
  have s1 : W3.frozen? ⟨b', off' + 8, none⟩ = false := (oi_at hO (i := 8) (by omega)).2
  have m0 : W3.cell? ⟨b, off + 8, none⟩ = some (.int .i64 (nth l 8)) := vi_nth (HV.out.below (s1_out hS)) (i := 8) (by omega)
  rw [rounds_succ]
  go_wp2
  replace hO : Oi T (W3.setCell ⟨b', off' + 8, none⟩ (.int .i64 (nth l 8))) (some ⟨b', off', none⟩) 20 lc b' off' ((((l2.set 5 (nth l 5)).set 6 (nth l 6)).set 7 (nth l 7)).set 8 (nth l 8)) := oi_set hO (i := 8) (by omega) (nth l 8)
  replace hS := s1_set hS (k := b') (by omega) (by omega) (off' + 8) (.int .i64 (nth l 8))
  clear s0 s1 m0
  generalize (W3.setCell ⟨b', off' + 8, none⟩ (.int .i64 (nth l 8))) = W4 at hO hS ⊢
  have s0 : W4.cell? ⟨b', off' + 9, none⟩ = some (.int .i64 (nth ((((l2.set 5 (nth l 5)).set 6 (nth l 6)).set 7 (nth l 7)).set 8 (nth l 8)) 9)) := (oi_at hO (i := 9) (by omega)).1
  have s1 : W4.frozen? ⟨b', off' + 9, none⟩ = false := (oi_at hO (i := 9) (by omega)).2
  have m0 : W4.cell? ⟨b, off + 9, none⟩ = some (.int .i64 (nth l 9)) := vi_nth (HV.out.below (s1_out hS)) (i := 9) (by omega)
  rw [rounds_succ]
  go_wp2
  replace hO : Oi T (W4.setCell ⟨b', off' + 9, none⟩ (.int .i64 (nth l 9))) (some ⟨b', off', none⟩) 20 lc b' off' (((((l2.set 5 (nth l 5)).set 6 (nth l 6)).set 7 (nth l 7)).set 8 (nth l 8)).set 9 (nth l 9)) := oi_set hO (i := 9) (by omega) (nth l 9)
  replace hS := s1_set hS (k := b') (by omega) (by omega) (off' + 9) (.int .i64 (nth l 9))
  clear s0 s1 m0
  generalize (W4.setCell ⟨b', off' + 9, none⟩ (.int .i64 (nth l 9))) = W5 at hO hS ⊢
  obtain ⟨L, hL⟩ : ∃ L, L = (((((l2.set 5 (nth l 5)).set 6 (nth l 6)).set 7 (nth l 7)).set 8 (nth l 8)).set 9 (nth l 9)) := ⟨_, rfl⟩
  rw [← hL] at hO
  have HL := hid hL
  clear hL
  obtain ⟨ba, offa, hA⟩ := app_copy (vi_take (HV.out.below (s1_out hS)) (k := 15) (by omega)) (by omega)
  have hOa := oi_copy hA
  have hla := app_low hA
  have hFa : Fine Try.prog #[22, 22] 22 (W5.alloc (.cells #[] 3)) (.slice (some ⟨W5.heap.size, 0, none⟩) 0 0) (.slice (some ⟨b, off, none⟩) 15 c) 15 := hA.fine
  obtain ⟨bb, offb, hB'⟩ := app_copy (vi_take (hO.below hla).v (k := 15) (by omega)) (by omega)
  have hOb := oi_copy hB'
  have hlb := app_low hB'
  have hFb : Fine Try.prog #[22, 22] 22 ((apW Try.prog #[22, 22] 22 (W5.alloc (.cells #[] 3)) (.slice (some ⟨W5.heap.size, 0, none⟩) 0 0) (.slice (some ⟨b, off, none⟩) 15 c)).alloc (.cells #[] 3)) (.slice (some ⟨(apW Try.prog #[22, 22] 22 (W5.alloc (.cells #[] 3)) (.slice (some ⟨W5.heap.size, 0, none⟩) 0 0) (.slice (some ⟨b, off, none⟩) 15 c)).heap.size, 0, none⟩) 0 0) (.slice (some ⟨b', off', none⟩) 15 lc) 15 := hB'.fine
  clear hA hB'
  have t0 : ∀ w : World, (Instr.slice 22 (.slice (some ⟨b, off, none⟩) 20 c) none (some (.int .i64 15)) none).run Try.prog w = .ok (.slice (some ⟨b, off, none⟩) 15 c) w := cutTo c b off hc
  have t1 : ∀ w : World, (Instr.slice 22 (.slice (some ⟨b', off', none⟩) 20 lc) none (some (.int .i64 15)) none).run Try.prog w = .ok (.slice (some ⟨b', off', none⟩) 15 lc) w := cutTo lc b' off' hlc
  have t2 : ∀ w : World, (Instr.sliceAt 22 (.slice (some ⟨b, off, none⟩) 20 c) none (some (.int .i64 15)) none).run Try.prog w = .ok (.slice (some ⟨b, off, none⟩) 15 c) w := cutTo' c b off hc
  have t3 : ∀ w : World, (Instr.sliceAt 22 (.slice (some ⟨b', off', none⟩) 20 lc) none (some (.int .i64 15)) none).run Try.prog w = .ok (.slice (some ⟨b', off', none⟩) 15 lc) w := cutTo' lc b' off' hlc
  have hTwo := two_mk hOa hOb hla hlb
  have hS9 := s1_below (s1_below (s1_below hS hla) hlb) ((Below.refl _ _).alloc (Nat.le_refl _) (.cells #[.int .i64 0, .int .i64 0, .int .i64 0, .int .i64 0, .int .i64 256] 3))
  have hlt : w.heap.size < W5.heap.size ∧ w.heap.size ≤ W5.heap.size := by
    have : w.heap.size < W5.heap.size := World.block_lt_of_cell? W5 ⟨w.heap.size, 0, none⟩ hS.1.1
    omega
  have hlen : l.length = 20 := vi_len HV.out
  have hlen2 : l2.length = 20 := vi_len HV2.out
  have hLen : L.length = 20 := vi_len hO.v
  have hRB : rightM L = true := by rw [HL.out]; exact right_set (right_set (right_set (right_set (right_set (HM2.out) 5 (right_ok HM.out (by omega))) 6 (right_ok HM.out (by omega))) 7 (right_ok HM.out (by omega))) 8 (right_ok HM.out (by omega))) 9 (right_ok HM.out (by omega))
  have HEq : Hid (colI (l.take 15 ++ fullL) 5 r g s a = colI (L.take 15 ++ fullL) 5 r g s a) := by
    refine col_same (fun i hi => ?_) (fun r g s a => by rw [alpha_full hlen, alpha_full hLen]) r g s a
    rw [nth_app (by rw [len_put hlen]; omega), nth_app (by rw [len_put hLen]; omega), nth_take (by omega), nth_take (by omega), HL.out]
    match i, hi with
    | 0, _ => show nth l 5 = nth _ 5; rw [nth_ne (by omega) _, nth_ne (by omega) _, nth_ne (by omega) _, nth_ne (by omega) _, nth_same (by simp [hlen2]) _]
    | 1, _ => show nth l 6 = nth _ 6; rw [nth_ne (by omega) _, nth_ne (by omega) _, nth_ne (by omega) _, nth_same (by simp [hlen2]) _]
    | 2, _ => show nth l 7 = nth _ 7; rw [nth_ne (by omega) _, nth_ne (by omega) _, nth_same (by simp [hlen2]) _]
    | 3, _ => show nth l 8 = nth _ 8; rw [nth_ne (by omega) _, nth_same (by simp [hlen2]) _]
    | 4, _ => show nth l 9 = nth _ 9; rw [nth_same (by simp [hlen2]) _]
  have HRA := hid (right_put HM.out)
  have HRB := hid (right_put hRB)
  clear hRB hlen hlen2 hLen HL hla hlb hOa hOb
  rw [rounds_succ]
  go_wp2
  clear hFa hFb t0 t1 t2 t3 hO hS
  generalize (apA Try.prog #[22, 22] 22 ((apW Try.prog #[22, 22] 22 (W5.alloc (.cells #[] 3)) (.slice (some ⟨W5.heap.size, 0, none⟩) 0 0) (.slice (some ⟨b, off, none⟩) 15 c)).alloc (.cells #[] 3)) (.slice (some ⟨(apW Try.prog #[22, 22] 22 (W5.alloc (.cells #[] 3)) (.slice (some ⟨W5.heap.size, 0, none⟩) 0 0) (.slice (some ⟨b, off, none⟩) 15 c)).heap.size, 0, none⟩) 0 0) (.slice (some ⟨b', off', none⟩) 15 lc)) = bA at hTwo ⊢
  generalize (apC Try.prog #[22, 22] 22 ((apW Try.prog #[22, 22] 22 (W5.alloc (.cells #[] 3)) (.slice (some ⟨W5.heap.size, 0, none⟩) 0 0) (.slice (some ⟨b, off, none⟩) 15 c)).alloc (.cells #[] 3)) (.slice (some ⟨(apW Try.prog #[22, 22] 22 (W5.alloc (.cells #[] 3)) (.slice (some ⟨W5.heap.size, 0, none⟩) 0 0) (.slice (some ⟨b, off, none⟩) 15 c)).heap.size, 0, none⟩) 0 0) (.slice (some ⟨b', off', none⟩) 15 lc)) = bC at hTwo ⊢
  generalize (apW Try.prog #[22, 22] 22 ((apW Try.prog #[22, 22] 22 (W5.alloc (.cells #[] 3)) (.slice (some ⟨W5.heap.size, 0, none⟩) 0 0) (.slice (some ⟨b, off, none⟩) 15 c)).alloc (.cells #[] 3)) (.slice (some ⟨(apW Try.prog #[22, 22] 22 (W5.alloc (.cells #[] 3)) (.slice (some ⟨W5.heap.size, 0, none⟩) 0 0) (.slice (some ⟨b, off, none⟩) 15 c)).heap.size, 0, none⟩) 0 0) (.slice (some ⟨b', off', none⟩) 15 lc)) = W7 at hTwo hS9 ⊢
  generalize (apA Try.prog #[22, 22] 22 (W5.alloc (.cells #[] 3)) (.slice (some ⟨W5.heap.size, 0, none⟩) 0 0) (.slice (some ⟨b, off, none⟩) 15 c)) = aA at hTwo ⊢
  generalize (apC Try.prog #[22, 22] 22 (W5.alloc (.cells #[] 3)) (.slice (some ⟨W5.heap.size, 0, none⟩) 0 0) (.slice (some ⟨b, off, none⟩) 15 c)) = aC at hTwo ⊢
  generalize W7.alloc (.cells #[.int .i64 0, .int .i64 0, .int .i64 0, .int .i64 0, .int .i64 256] 3) = W9 at hTwo hS9 ⊢
  generalize W7.heap.size = kf at hTwo ⊢
  generalize W5.heap.size = lo at hTwo hlt
  obtain ⟨A, hA⟩ : ∃ A, A = l.take 15 ++ fullL := ⟨_, rfl⟩
  obtain ⟨B, hB'⟩ : ∃ B, B = L.take 15 ++ fullL := ⟨_, rfl⟩
  have hEq := HEq.out
  rw [← hA, ← hB'] at hEq
  rw [← hA] at HRA
  rw [← hB'] at HRB
  have HAB := hid (And.intro hA hB')
  have HT := hid hTwo
  clear HEq hA hB' hTwo
  go_region_held3 (fun w' => (w'.cell? ⟨w.heap.size, 0, none⟩ = some (.int .u8 r) ∧ w'.cell? ⟨w.heap.size, 1, none⟩ = some (.int .u8 g) ∧ w'.cell? ⟨w.heap.size, 2, none⟩ = some (.int .u8 s) ∧ w'.cell? ⟨w.heap.size, 3, none⟩ = some (.int .u8 a)) ∧ Kept w w') (repeat (first | with_reducible assumption | with_reducible refine s1_drew ?_ | with_reducible refine s1_below ?_ ‹_› | with_reducible refine s1_low hlt ?_ ‹_›))
    ((first
      | (go_at_call 8; with_reducible refine Calls.mono (awake_any _) ?_; rintro e w1 ⟨rfl, hb1⟩; have HT1 := hid ((HT.out.below (Below.refl _ _).drew).below hb1); obtain ⟨⟨bx, offx, hP1⟩, hO1⟩ := two_put HT1.out; have hF1 := hP1.fine; have hl1 := hP1.low; have HO1 := hid hO1; have HP1 := hid (put_own HAB.out.1 hP1); clear hP1 hO1)
      | (go_at_call 12; with_reducible refine Calls.mono (pixel_any _ _ _ bx offx A _ _ _ _ _ HP1.out.v HRA.out ‹_› ‹_› ‹_› ‹_›) ?_; rintro e w2 ⟨rfl, hb2⟩; obtain ⟨bz, offy, hP2⟩ := one_put (HO1.out.below hb2); have hF2 := hP2.fine; have hl2 := hP2.low; have HP2 := hid (put_own HAB.out.2 hP2); clear hP2)
      | (go_at_call 12; with_reducible refine Calls.mono (pixel_any _ _ _ bz offy B _ _ _ _ _ HP2.out.v HRB.out ‹_› ‹_› ‹_› ‹_›) ?_; rintro e w3 ⟨rfl, hb3⟩)))
  all_goals
    go_wp2
    go_ret
    exact ⟨rfl, s1_out (p := w.heap.size) (v0 := .int .u8 r) (v1 := .int .u8 g) (v2 := .int .u8 s) (v3 := .int .u8 a) (by with_reducible assumption)⟩

set_option maxRecDepth 100000 in
set_option maxHeartbeats 4000000 in
theorem walk2 (ao : Option Addr) (n c b off : Nat) (l : List Int) (ao2 : Option Addr) (n2 c2 b2 off2 : Nat) (l2 : List Int) (r g s a row : Int) (w : World) (h : Vi w ao n c b off l) (h2 : Vi w ao2 n2 c2 b2 off2 l2) (hr : 0 ≤ r ∧ r ≤ 255) (hg : 0 ≤ g ∧ g ≤ 255) (hs : 0 ≤ s ∧ s ≤ 255) (ha : 0 ≤ a ∧ a ≤ 255) (hrow : 0 ≤ row ∧ row ≤ 255) (hN : n ≤ 100) (hN2 : n2 ≤ 100) (hM : rightM l = true) (hM2 : rightM l2 = true) (hR : rightB r g s a = true) (hk : row % 3 = 2) :
    Calls Try.prog 5 #[.slice ao n c, .slice ao2 n2 c2, .agg #[.int .u8 r, .int .u8 g, .int .u8 s, .int .u8 a], .int .u8 row] w fun e w' => e = .returned (.bool true) ∧ Below w.heap.size w w' := by
  obtain rfl : n = 20 := by rw [← vi_len h]; exact right_len hM
  obtain rfl : n2 = 20 := by rw [← vi_len h2]; exact right_len hM2
  obtain rfl := h.addr (by have := h.le; omega)
  obtain rfl := h2.addr (by have := h2.le; omega)
  have hc : 20 ≤ c := h.le
  have hcm : c ≤ 9223372036854775807 := h.max
  have HV := hid h
  have HV2 := hid h2
  have HM := hid hM
  have HM2 := hid hM2
  have HR := hid hR
  clear h h2 hM hM2 hR hN hN2
  have hS := s1_new w (.int .u8 r) (.int .u8 g) (.int .u8 s) (.int .u8 a) 24
  have hX0 := index0
  have hX1 := index1
  have hX2 := index2
  go_enter Try.func5, Try.ntmps5
  go_wp2_with (first | (go_at_call 10; with_reducible refine Calls.mono (refMRight_any _ _ c b off l _ (HV.out.below (s1_out hS))) ?_; rintro e wc ⟨rfl, hb⟩; rw [HM.out]; replace hS := s1_below hS hb; clear hb; obtain ⟨⟨p0, p1, p2, p3⟩, hB⟩ := id hS) | (go_at_call 10; with_reducible refine Calls.mono (refMRight_any _ _ c2 b2 off2 l2 _ (HV2.out.below (s1_out hS))) ?_; rintro e wc ⟨rfl, hb⟩; rw [HM2.out]; replace hS := s1_below hS hb; clear hb; obtain ⟨⟨p0, p1, p2, p3⟩, hB⟩ := id hS) | (go_at_call 11; with_reducible refine Calls.mono (refRight_b _ _ _ _ _ ‹_› ‹_› ‹_› ‹_›) ?_; rintro e wc ⟨rfl, hb⟩; rw [HR.out]; replace hS := s1_below hS hb; clear hb; obtain ⟨⟨p0, p1, p2, p3⟩, hB⟩ := id hS; obtain ⟨b', off', hA⟩ := app_copy0 (HV2.out.below (s1_out hS)) (by omega); have hF : Fine Try.prog #[22, 22] 22 wc (.slice none 0 0) (.slice (some ⟨b2, off2, none⟩) 20 c2) 20 := hA.fine; have HA := hid hA; clear hA))
  have hO := oi_copy HA.out
  have hlow := HA.out.below
  have hTw : w.heap.size < wc.heap.size := World.block_lt_of_cell? wc ⟨w.heap.size, 0, none⟩ p0
  replace hS := s1_below hS hlow
  clear HA hF hlow p0 p1 p2 p3 hB
  generalize (apA Try.prog #[22, 22] 22 wc (.slice none 0 0) (.slice (some ⟨b2, off2, none⟩) 20 c2)) = lo at hO ⊢
  generalize (apC Try.prog #[22, 22] 22 wc (.slice none 0 0) (.slice (some ⟨b2, off2, none⟩) 20 c2)) = lc at hO ⊢
  generalize (apW Try.prog #[22, 22] 22 wc (.slice none 0 0) (.slice (some ⟨b2, off2, none⟩) 20 c2)) = W0 at hO hS ⊢
  obtain rfl := hO.v.addr (by have := hO.v.le; omega)
  have hlc := hO.v.le
  have hlm : lc ≤ 9223372036854775807 := hO.v.max
  obtain ⟨hTl, -⟩ := hO.new (by omega)
  obtain ⟨T, hT⟩ : ∃ T, T = wc.heap.size := ⟨_, rfl⟩
  rw [← hT] at hO hTl hTw
  clear hT
  refine wp_loop_rounds 6 ?_
  have s0 : W0.cell? ⟨b', off' + 10, none⟩ = some (.int .i64 (nth l2 10)) := (oi_at hO (i := 10) (by omega)).1
  have s1 : W0.frozen? ⟨b', off' + 10, none⟩ = false := (oi_at hO (i := 10) (by omega)).2
  have m0 : W0.cell? ⟨b, off + 10, none⟩ = some (.int .i64 (nth l 10)) := vi_nth (HV.out.below (s1_out hS)) (i := 10) (by omega)
  rw [rounds_succ]
  go_wp2
  replace hO : Oi T (W0.setCell ⟨b', off' + 10, none⟩ (.int .i64 (nth l 10))) (some ⟨b', off', none⟩) 20 lc b' off' (l2.set 10 (nth l 10)) := oi_set hO (i := 10) (by omega) (nth l 10)
  replace hS := s1_set hS (k := b') (by omega) (by omega) (off' + 10) (.int .i64 (nth l 10))
  clear s0 s1 m0
  generalize (W0.setCell ⟨b', off' + 10, none⟩ (.int .i64 (nth l 10))) = W1 at hO hS ⊢
  have s0 : W1.cell? ⟨b', off' + 11, none⟩ = some (.int .i64 (nth (l2.set 10 (nth l 10)) 11)) := (oi_at hO (i := 11) (by omega)).1
  have s1 : W1.frozen? ⟨b', off' + 11, none⟩ = false := (oi_at hO (i := 11) (by omega)).2
  have m0 : W1.cell? ⟨b, off + 11, none⟩ = some (.int .i64 (nth l 11)) := vi_nth (HV.out.below (s1_out hS)) (i := 11) (by omega)
  rw [rounds_succ]
  go_wp2
  replace hO : Oi T (W1.setCell ⟨b', off' + 11, none⟩ (.int .i64 (nth l 11))) (some ⟨b', off', none⟩) 20 lc b' off' ((l2.set 10 (nth l 10)).set 11 (nth l 11)) := oi_set hO (i := 11) (by omega) (nth l 11)
  replace hS := s1_set hS (k := b') (by omega) (by omega) (off' + 11) (.int .i64 (nth l 11))
  clear s0 s1 m0
  generalize (W1.setCell ⟨b', off' + 11, none⟩ (.int .i64 (nth l 11))) = W2 at hO hS ⊢
  have s0 : W2.cell? ⟨b', off' + 12, none⟩ = some (.int .i64 (nth ((l2.set 10 (nth l 10)).set 11 (nth l 11)) 12)) := (oi_at hO (i := 12) (by omega)).1
  have s1 : W2.frozen? ⟨b', off' + 12, none⟩ = false := (oi_at hO (i := 12) (by omega)).2
  have m0 : W2.cell? ⟨b, off + 12, none⟩ = some (.int .i64 (nth l 12)) := vi_nth (HV.out.below (s1_out hS)) (i := 12) (by omega)
  rw [rounds_succ]
  go_wp2
  replace hO : Oi T (W2.setCell ⟨b', off' + 12, none⟩ (.int .i64 (nth l 12))) (some ⟨b', off', none⟩) 20 lc b' off' (((l2.set 10 (nth l 10)).set 11 (nth l 11)).set 12 (nth l 12)) := oi_set hO (i := 12) (by omega) (nth l 12)
  replace hS := s1_set hS (k := b') (by omega) (by omega) (off' + 12) (.int .i64 (nth l 12))
  clear s0 s1 m0
  generalize (W2.setCell ⟨b', off' + 12, none⟩ (.int .i64 (nth l 12))) = W3 at hO hS ⊢
  have s0 : W3.cell? ⟨b', off' + 13, none⟩ = some (.int .i64 (nth (((l2.set 10 (nth l 10)).set 11 (nth l 11)).set 12 (nth l 12)) 13)) := (oi_at hO (i := 13) (by omega)).1
  have s1 : W3.frozen? ⟨b', off' + 13, none⟩ = false := (oi_at hO (i := 13) (by omega)).2
  have m0 : W3.cell? ⟨b, off + 13, none⟩ = some (.int .i64 (nth l 13)) := vi_nth (HV.out.below (s1_out hS)) (i := 13) (by omega)
  rw [rounds_succ]
  go_wp2
  replace hO : Oi T (W3.setCell ⟨b', off' + 13, none⟩ (.int .i64 (nth l 13))) (some ⟨b', off', none⟩) 20 lc b' off' ((((l2.set 10 (nth l 10)).set 11 (nth l 11)).set 12 (nth l 12)).set 13 (nth l 13)) := oi_set hO (i := 13) (by omega) (nth l 13)
  replace hS := s1_set hS (k := b') (by omega) (by omega) (off' + 13) (.int .i64 (nth l 13))
  clear s0 s1 m0
  generalize (W3.setCell ⟨b', off' + 13, none⟩ (.int .i64 (nth l 13))) = W4 at hO hS ⊢
  have s0 : W4.cell? ⟨b', off' + 14, none⟩ = some (.int .i64 (nth ((((l2.set 10 (nth l 10)).set 11 (nth l 11)).set 12 (nth l 12)).set 13 (nth l 13)) 14)) := (oi_at hO (i := 14) (by omega)).1
  have s1 : W4.frozen? ⟨b', off' + 14, none⟩ = false := (oi_at hO (i := 14) (by omega)).2
  have m0 : W4.cell? ⟨b, off + 14, none⟩ = some (.int .i64 (nth l 14)) := vi_nth (HV.out.below (s1_out hS)) (i := 14) (by omega)
  rw [rounds_succ]
  go_wp2
  replace hO : Oi T (W4.setCell ⟨b', off' + 14, none⟩ (.int .i64 (nth l 14))) (some ⟨b', off', none⟩) 20 lc b' off' (((((l2.set 10 (nth l 10)).set 11 (nth l 11)).set 12 (nth l 12)).set 13 (nth l 13)).set 14 (nth l 14)) := oi_set hO (i := 14) (by omega) (nth l 14)
  replace hS := s1_set hS (k := b') (by omega) (by omega) (off' + 14) (.int .i64 (nth l 14))
  clear s0 s1 m0
  generalize (W4.setCell ⟨b', off' + 14, none⟩ (.int .i64 (nth l 14))) = W5 at hO hS ⊢
  obtain ⟨L, hL⟩ : ∃ L, L = (((((l2.set 10 (nth l 10)).set 11 (nth l 11)).set 12 (nth l 12)).set 13 (nth l 13)).set 14 (nth l 14)) := ⟨_, rfl⟩
  rw [← hL] at hO
  have HL := hid hL
  clear hL
  obtain ⟨ba, offa, hA⟩ := app_copy (vi_take (HV.out.below (s1_out hS)) (k := 15) (by omega)) (by omega)
  have hOa := oi_copy hA
  have hla := app_low hA
  have hFa : Fine Try.prog #[22, 22] 22 (W5.alloc (.cells #[] 3)) (.slice (some ⟨W5.heap.size, 0, none⟩) 0 0) (.slice (some ⟨b, off, none⟩) 15 c) 15 := hA.fine
  obtain ⟨bb, offb, hB'⟩ := app_copy (vi_take (hO.below hla).v (k := 15) (by omega)) (by omega)
  have hOb := oi_copy hB'
  have hlb := app_low hB'
  have hFb : Fine Try.prog #[22, 22] 22 ((apW Try.prog #[22, 22] 22 (W5.alloc (.cells #[] 3)) (.slice (some ⟨W5.heap.size, 0, none⟩) 0 0) (.slice (some ⟨b, off, none⟩) 15 c)).alloc (.cells #[] 3)) (.slice (some ⟨(apW Try.prog #[22, 22] 22 (W5.alloc (.cells #[] 3)) (.slice (some ⟨W5.heap.size, 0, none⟩) 0 0) (.slice (some ⟨b, off, none⟩) 15 c)).heap.size, 0, none⟩) 0 0) (.slice (some ⟨b', off', none⟩) 15 lc) 15 := hB'.fine
  clear hA hB'
  have t0 : ∀ w : World, (Instr.slice 22 (.slice (some ⟨b, off, none⟩) 20 c) none (some (.int .i64 15)) none).run Try.prog w = .ok (.slice (some ⟨b, off, none⟩) 15 c) w := cutTo c b off hc
  have t1 : ∀ w : World, (Instr.slice 22 (.slice (some ⟨b', off', none⟩) 20 lc) none (some (.int .i64 15)) none).run Try.prog w = .ok (.slice (some ⟨b', off', none⟩) 15 lc) w := cutTo lc b' off' hlc
  have t2 : ∀ w : World, (Instr.sliceAt 22 (.slice (some ⟨b, off, none⟩) 20 c) none (some (.int .i64 15)) none).run Try.prog w = .ok (.slice (some ⟨b, off, none⟩) 15 c) w := cutTo' c b off hc
  have t3 : ∀ w : World, (Instr.sliceAt 22 (.slice (some ⟨b', off', none⟩) 20 lc) none (some (.int .i64 15)) none).run Try.prog w = .ok (.slice (some ⟨b', off', none⟩) 15 lc) w := cutTo' lc b' off' hlc
  have hTwo := two_mk hOa hOb hla hlb
  have hS9 := s1_below (s1_below (s1_below hS hla) hlb) ((Below.refl _ _).alloc (Nat.le_refl _) (.cells #[.int .i64 0, .int .i64 0, .int .i64 0, .int .i64 0, .int .i64 256] 3))
  have hlt : w.heap.size < W5.heap.size ∧ w.heap.size ≤ W5.heap.size := by
    have : w.heap.size < W5.heap.size := World.block_lt_of_cell? W5 ⟨w.heap.size, 0, none⟩ hS.1.1
    omega
  have hlen : l.length = 20 := vi_len HV.out
  have hlen2 : l2.length = 20 := vi_len HV2.out
  have hLen : L.length = 20 := vi_len hO.v
  have hRB : rightM L = true := by rw [HL.out]; exact right_set (right_set (right_set (right_set (right_set (HM2.out) 10 (right_ok HM.out (by omega))) 11 (right_ok HM.out (by omega))) 12 (right_ok HM.out (by omega))) 13 (right_ok HM.out (by omega))) 14 (right_ok HM.out (by omega))
  have HEq : Hid (colI (l.take 15 ++ fullL) 10 r g s a = colI (L.take 15 ++ fullL) 10 r g s a) := by
    refine col_same (fun i hi => ?_) (fun r g s a => by rw [alpha_full hlen, alpha_full hLen]) r g s a
    rw [nth_app (by rw [len_put hlen]; omega), nth_app (by rw [len_put hLen]; omega), nth_take (by omega), nth_take (by omega), HL.out]
    match i, hi with
    | 0, _ => show nth l 10 = nth _ 10; rw [nth_ne (by omega) _, nth_ne (by omega) _, nth_ne (by omega) _, nth_ne (by omega) _, nth_same (by simp [hlen2]) _]
    | 1, _ => show nth l 11 = nth _ 11; rw [nth_ne (by omega) _, nth_ne (by omega) _, nth_ne (by omega) _, nth_same (by simp [hlen2]) _]
    | 2, _ => show nth l 12 = nth _ 12; rw [nth_ne (by omega) _, nth_ne (by omega) _, nth_same (by simp [hlen2]) _]
    | 3, _ => show nth l 13 = nth _ 13; rw [nth_ne (by omega) _, nth_same (by simp [hlen2]) _]
    | 4, _ => show nth l 14 = nth _ 14; rw [nth_same (by simp [hlen2]) _]
  have HRA := hid (right_put HM.out)
  have HRB := hid (right_put hRB)
  clear hRB hlen hlen2 hLen HL hla hlb hOa hOb
  rw [rounds_succ]
  go_wp2
  clear hFa hFb t0 t1 t2 t3 hO hS
  generalize (apA Try.prog #[22, 22] 22 ((apW Try.prog #[22, 22] 22 (W5.alloc (.cells #[] 3)) (.slice (some ⟨W5.heap.size, 0, none⟩) 0 0) (.slice (some ⟨b, off, none⟩) 15 c)).alloc (.cells #[] 3)) (.slice (some ⟨(apW Try.prog #[22, 22] 22 (W5.alloc (.cells #[] 3)) (.slice (some ⟨W5.heap.size, 0, none⟩) 0 0) (.slice (some ⟨b, off, none⟩) 15 c)).heap.size, 0, none⟩) 0 0) (.slice (some ⟨b', off', none⟩) 15 lc)) = bA at hTwo ⊢
  generalize (apC Try.prog #[22, 22] 22 ((apW Try.prog #[22, 22] 22 (W5.alloc (.cells #[] 3)) (.slice (some ⟨W5.heap.size, 0, none⟩) 0 0) (.slice (some ⟨b, off, none⟩) 15 c)).alloc (.cells #[] 3)) (.slice (some ⟨(apW Try.prog #[22, 22] 22 (W5.alloc (.cells #[] 3)) (.slice (some ⟨W5.heap.size, 0, none⟩) 0 0) (.slice (some ⟨b, off, none⟩) 15 c)).heap.size, 0, none⟩) 0 0) (.slice (some ⟨b', off', none⟩) 15 lc)) = bC at hTwo ⊢
  generalize (apW Try.prog #[22, 22] 22 ((apW Try.prog #[22, 22] 22 (W5.alloc (.cells #[] 3)) (.slice (some ⟨W5.heap.size, 0, none⟩) 0 0) (.slice (some ⟨b, off, none⟩) 15 c)).alloc (.cells #[] 3)) (.slice (some ⟨(apW Try.prog #[22, 22] 22 (W5.alloc (.cells #[] 3)) (.slice (some ⟨W5.heap.size, 0, none⟩) 0 0) (.slice (some ⟨b, off, none⟩) 15 c)).heap.size, 0, none⟩) 0 0) (.slice (some ⟨b', off', none⟩) 15 lc)) = W7 at hTwo hS9 ⊢
  generalize (apA Try.prog #[22, 22] 22 (W5.alloc (.cells #[] 3)) (.slice (some ⟨W5.heap.size, 0, none⟩) 0 0) (.slice (some ⟨b, off, none⟩) 15 c)) = aA at hTwo ⊢
  generalize (apC Try.prog #[22, 22] 22 (W5.alloc (.cells #[] 3)) (.slice (some ⟨W5.heap.size, 0, none⟩) 0 0) (.slice (some ⟨b, off, none⟩) 15 c)) = aC at hTwo ⊢
  generalize W7.alloc (.cells #[.int .i64 0, .int .i64 0, .int .i64 0, .int .i64 0, .int .i64 256] 3) = W9 at hTwo hS9 ⊢
  generalize W7.heap.size = kf at hTwo ⊢
  generalize W5.heap.size = lo at hTwo hlt
  obtain ⟨A, hA⟩ : ∃ A, A = l.take 15 ++ fullL := ⟨_, rfl⟩
  obtain ⟨B, hB'⟩ : ∃ B, B = L.take 15 ++ fullL := ⟨_, rfl⟩
  have hEq := HEq.out
  rw [← hA, ← hB'] at hEq
  rw [← hA] at HRA
  rw [← hB'] at HRB
  have HAB := hid (And.intro hA hB')
  have HT := hid hTwo
  clear HEq hA hB' hTwo
  go_region_held3 (fun w' => (w'.cell? ⟨w.heap.size, 0, none⟩ = some (.int .u8 r) ∧ w'.cell? ⟨w.heap.size, 1, none⟩ = some (.int .u8 g) ∧ w'.cell? ⟨w.heap.size, 2, none⟩ = some (.int .u8 s) ∧ w'.cell? ⟨w.heap.size, 3, none⟩ = some (.int .u8 a)) ∧ Kept w w') (repeat (first | with_reducible assumption | with_reducible refine s1_drew ?_ | with_reducible refine s1_below ?_ ‹_› | with_reducible refine s1_low hlt ?_ ‹_›))
    ((first
      | (go_at_call 8; with_reducible refine Calls.mono (awake_any _) ?_; rintro e w1 ⟨rfl, hb1⟩; have HT1 := hid ((HT.out.below (Below.refl _ _).drew).below hb1); obtain ⟨⟨bx, offx, hP1⟩, hO1⟩ := two_put HT1.out; have hF1 := hP1.fine; have hl1 := hP1.low; have HO1 := hid hO1; have HP1 := hid (put_own HAB.out.1 hP1); clear hP1 hO1)
      | (go_at_call 12; with_reducible refine Calls.mono (pixel_any _ _ _ bx offx A _ _ _ _ _ HP1.out.v HRA.out ‹_› ‹_› ‹_› ‹_›) ?_; rintro e w2 ⟨rfl, hb2⟩; obtain ⟨bz, offy, hP2⟩ := one_put (HO1.out.below hb2); have hF2 := hP2.fine; have hl2 := hP2.low; have HP2 := hid (put_own HAB.out.2 hP2); clear hP2)
      | (go_at_call 12; with_reducible refine Calls.mono (pixel_any _ _ _ bz offy B _ _ _ _ _ HP2.out.v HRB.out ‹_› ‹_› ‹_› ‹_›) ?_; rintro e w3 ⟨rfl, hb3⟩)))
  all_goals
    go_wp2
    go_ret
    exact ⟨rfl, s1_out (p := w.heap.size) (v0 := .int .u8 r) (v1 := .int .u8 g) (v2 := .int .u8 s) (v3 := .int .u8 a) (by with_reducible assumption)⟩

set_option maxRecDepth 100000 in
set_option maxHeartbeats 2000000 in
theorem walk (ao : Option Addr) (n c b off : Nat) (l : List Int) (ao2 : Option Addr) (n2 c2 b2 off2 : Nat) (l2 : List Int) (r g s a row : Int) (w : World) (h : Vi w ao n c b off l) (h2 : Vi w ao2 n2 c2 b2 off2 l2) (hr : 0 ≤ r ∧ r ≤ 255) (hg : 0 ≤ g ∧ g ≤ 255) (hs : 0 ≤ s ∧ s ≤ 255) (ha : 0 ≤ a ∧ a ≤ 255) (hrow : 0 ≤ row ∧ row ≤ 255) :
    Calls Try.prog 5 #[.slice ao n c, .slice ao2 n2 c2, .agg #[.int .u8 r, .int .u8 g, .int .u8 s, .int .u8 a], .int .u8 row] w fun e w' => e = .returned (.bool true) ∧ Below w.heap.size w w' := by
  have hn := vz_small h
  have hn2 := vz_small h2
  have HV := hid h
  have HV2 := hid h2
  have hS := s1_new w (.int .u8 r) (.int .u8 g) (.int .u8 s) (.int .u8 a) 24
  by_cases hN : 100 < n
  · have hNz : (100 : Int) < (n : Int) := by omega
    clear h h2
    go_enter Try.func5, Try.ntmps5
    go_wp2_with (first | (go_at_call 8; with_reducible refine Calls.mono (awake_any _) ?_; rintro e wc ⟨rfl, hb⟩; replace hS := s1_below hS hb; clear hb; obtain ⟨⟨p0, p1, p2, p3⟩, hB⟩ := id hS))
    go_ret
    exact ⟨rfl, s1_out hS⟩
  have hNz : ¬ ((100 : Int) < (n : Int)) := by omega
  by_cases hN2 : 100 < n2
  · have hNz2 : (100 : Int) < (n2 : Int) := by omega
    clear h h2
    go_enter Try.func5, Try.ntmps5
    go_wp2_with (first | (go_at_call 8; with_reducible refine Calls.mono (awake_any _) ?_; rintro e wc ⟨rfl, hb⟩; replace hS := s1_below hS hb; clear hb; obtain ⟨⟨p0, p1, p2, p3⟩, hB⟩ := id hS))
    go_ret
    exact ⟨rfl, s1_out hS⟩
  have hNz2 : ¬ ((100 : Int) < (n2 : Int)) := by omega
  rcases hM : rightM l with _ | _
  · have HM := hid hM
    clear h h2 hM
    go_enter Try.func5, Try.ntmps5
    go_wp2_with (first | (go_at_call 8; with_reducible refine Calls.mono (awake_any _) ?_; rintro e wc ⟨rfl, hb⟩; replace hS := s1_below hS hb; clear hb; obtain ⟨⟨p0, p1, p2, p3⟩, hB⟩ := id hS) | (go_at_call 10; with_reducible refine Calls.mono (refMRight_any ao n c b off l _ (HV.out.below (s1_out hS))) ?_; rintro e wc ⟨rfl, hb⟩; rw [HM.out]; replace hS := s1_below hS hb; clear hb; obtain ⟨⟨p0, p1, p2, p3⟩, hB⟩ := id hS))
    go_ret
    exact ⟨rfl, s1_out hS⟩
  rcases hM2 : rightM l2 with _ | _
  · have HM := hid hM
    have HM2 := hid hM2
    clear h h2 hM hM2
    go_enter Try.func5, Try.ntmps5
    go_wp2_with (first | (go_at_call 8; with_reducible refine Calls.mono (awake_any _) ?_; rintro e wc ⟨rfl, hb⟩; replace hS := s1_below hS hb; clear hb; obtain ⟨⟨p0, p1, p2, p3⟩, hB⟩ := id hS) | (go_at_call 10; with_reducible refine Calls.mono (refMRight_any ao n c b off l _ (HV.out.below (s1_out hS))) ?_; rintro e wc ⟨rfl, hb⟩; rw [HM.out]; replace hS := s1_below hS hb; clear hb; obtain ⟨⟨p0, p1, p2, p3⟩, hB⟩ := id hS) | (go_at_call 10; with_reducible refine Calls.mono (refMRight_any ao2 n2 c2 b2 off2 l2 _ (HV2.out.below (s1_out hS))) ?_; rintro e wc ⟨rfl, hb⟩; rw [HM2.out]; replace hS := s1_below hS hb; clear hb; obtain ⟨⟨p0, p1, p2, p3⟩, hB⟩ := id hS))
    go_ret
    exact ⟨rfl, s1_out hS⟩
  rcases hR : rightB r g s a with _ | _
  · have HM := hid hM
    have HM2 := hid hM2
    have HR := hid hR
    clear h h2 hM hM2 hR
    go_enter Try.func5, Try.ntmps5
    go_wp2_with (first | (go_at_call 8; with_reducible refine Calls.mono (awake_any _) ?_; rintro e wc ⟨rfl, hb⟩; replace hS := s1_below hS hb; clear hb; obtain ⟨⟨p0, p1, p2, p3⟩, hB⟩ := id hS) | (go_at_call 10; with_reducible refine Calls.mono (refMRight_any ao n c b off l _ (HV.out.below (s1_out hS))) ?_; rintro e wc ⟨rfl, hb⟩; rw [HM.out]; replace hS := s1_below hS hb; clear hb; obtain ⟨⟨p0, p1, p2, p3⟩, hB⟩ := id hS) | (go_at_call 10; with_reducible refine Calls.mono (refMRight_any ao2 n2 c2 b2 off2 l2 _ (HV2.out.below (s1_out hS))) ?_; rintro e wc ⟨rfl, hb⟩; rw [HM2.out]; replace hS := s1_below hS hb; clear hb; obtain ⟨⟨p0, p1, p2, p3⟩, hB⟩ := id hS) | (go_at_call 11; with_reducible refine Calls.mono (refRight_b _ _ _ _ _ ‹_› ‹_› ‹_› ‹_›) ?_; rintro e wc ⟨rfl, hb⟩; rw [HR.out]; replace hS := s1_below hS hb; clear hb; obtain ⟨⟨p0, p1, p2, p3⟩, hB⟩ := id hS))
    go_ret
    exact ⟨rfl, s1_out hS⟩
  have h3 : row % 3 = 0 ∨ row % 3 = 1 ∨ row % 3 = 2 := by omega
  rcases h3 with h3 | h3 | h3
  · exact walk0 ao n c b off l ao2 n2 c2 b2 off2 l2 r g s a row w h h2 hr hg hs ha hrow (by omega) (by omega) hM hM2 hR h3
  · exact walk1 ao n c b off l ao2 n2 c2 b2 off2 l2 r g s a row w h h2 hr hg hs ha hrow (by omega) (by omega) hM hM2 hR h3
  · exact walk2 ao n c b off l ao2 n2 c2 b2 off2 l2 r g s a row w h h2 hr hg hs ha hrow (by omega) (by omega) hM hM2 hR h3

theorem own : ownKnob Try.prog.godebug = none := by kernel_rfl

set_option maxHeartbeats 400000 in
set_option maxRecDepth 100000 in
theorem lifted (os : Os) (started : os.Started) (H : Type) (enc : TypeId × Value → H) :
    ReturnsInHanded {} Try.checked os 5 .any (Rows.tintRowsSpec.pre6 enc Try.prog Try.f5 Rows.tintRowsRow.domain false) (Rows.tintRowsSpec.post enc Try.prog Try.f5 false true false false) := by
  refine returnsInHanded_of_change (C := Try.checked) own started (by kernel_rfl) Try.func5
    (ChangeSpec.witness6 (enc := enc) (C := Try.checked) false ⟨#[], #[.slice none 0 0, .slice none 0 0, .agg #[.int .u8 0, .int .u8 0, .int .u8 0, .int .u8 0], .int .u8 0], []⟩ 8 (by kernel_rfl) (by kernel_rfl) (by kernel_rfl) (by kernel_rfl)) ?_
  intro W base args ds gs before hval0 hW hcnd _
  have hval : ∀ (j : Nat) t v, Try.f5.params[j]? = some t → args[j]? = some v → Value.okWide Try.prog W .any base t v := hval0
  have hW' := hW
  obtain ⟨p, q, hA0, hV, rfl, hfz, hnd⟩ := hW
  have hA : DataW.TrodAll enc Try.prog W 0 (fun _ => true) true Try.f5.params.toList args.toList ds p := hA0
  rw [Try.params5] at hA hval
  obtain ⟨v0, vs0, d0, ds0, p0, q0, hargs, rfl, rfl, h0, r0⟩ := trodAll_cons hA
  obtain ⟨v1, vs1, d1, ds1, p1, q1, rfl, rfl, rfl, h1, r1⟩ := trodAll_cons r0
  obtain ⟨v2, vs2, d2, ds2, p2, q2, rfl, rfl, rfl, h2, r2⟩ := trodAll_cons r1
  obtain ⟨v3, vs3, d3, ds3, p3, q3, rfl, rfl, rfl, h3, r3⟩ := trodAll_cons r2
  obtain ⟨rfl, rfl, rfl⟩ := trodAll_nil r3
  obtain rfl : args = #[v0, v1, v2, v3] := by cases args; simp_all
  obtain ⟨rfl, rfl⟩ := trodVars_none hV
  obtain ⟨ao0, n0, c0, b0, off0, l0, rfl, hv0⟩ := open_ints (hval 0 22 v0 rfl rfl) h0
  obtain ⟨ao1, n1, c1, b1, off1, l1, rfl, hv1⟩ := open_ints (hval 1 22 v1 rfl rfl) h1
  obtain ⟨x20, x21, x22, x23, rfl, -, -, u20, u21, u22, u23⟩ := open_px Try.underlying24 Try.underlying5 cells24 cells5 (hval 2 24 v2 rfl rfl) h2
  obtain ⟨k3, rfl, -, -, u3⟩ := open_int Try.underlying5 (hval 3 5 v3 rfl rfl) h3
  clear hA0 hval0
  simp only [List.append_nil] at hW'
  have hlt : ∀ x ∈ p0 ++ (p1 ++ (p2 ++ (p3))), x.block < W.heap.size := fun x hx => by simpa using hW'.lt x (by simpa using hx)
  refine (walk ao0 n0 c0 b0 off0 l0 ao1 n1 c1 b1 off1 l1 x20 x21 x22 x23 k3 W hv0 hv1 (bounds_u8 u20) (bounds_u8 u21) (bounds_u8 u22) (bounds_u8 u23) (bounds_u8 u3)).mono fun e W' ⟨he, hg⟩ => ?_
  subst he
  have t0 := Below.trod laidOut (by kernel_rfl) (of_decide_eq_true (by kernel_rfl)) h0 hg (fun x hx => hlt x (List.mem_append_left _ hx))
  have t1 := Below.trod laidOut (by kernel_rfl) (of_decide_eq_true (by kernel_rfl)) h1 hg (fun x hx => hlt x (List.mem_append_right _ (List.mem_append_left _ hx)))
  have t2 := Below.trod laidOut (by kernel_rfl) (of_decide_eq_true (by kernel_rfl)) h2 hg (fun x hx => hlt x (List.mem_append_right _ (List.mem_append_right _ (List.mem_append_left _ hx))))
  have t3 := Below.trod laidOut (by kernel_rfl) (of_decide_eq_true (by kernel_rfl)) h3 hg (fun x hx => hlt x (List.mem_append_right _ (List.mem_append_right _ (List.mem_append_right _ (hx)))))
  exact ⟨_, rfl, ⟨_, _, _, _, _, _, hW', (trodAll_cons_mk (shut_bool Try.underlying4 _) trodAll_mk0), (trodAll_cons_mk t0 (trodAll_cons_mk t1 (trodAll_cons_mk t2 (trodAll_cons_mk t3 trodAll_mk0)))), rfl, hg.frame _, fun h => by cases h⟩⟩

theorem over : Rows.tintRowsRow.holds Try.pinned (OpenSpec.ofChange Rows.tintRowsSpec) :=
  OpenClaim.holds_of_wide 5 Try.f5 rfl rfl rfl rfl rfl rfl rfl ⟨rfl, rfl, rfl, rfl, rfl⟩ rfl rfl rfl rfl rfl (by kernel_rfl) Try.func5 (by kernel_rfl)
    (of_decide_eq_true (by kernel_rfl)) (by unfold Func.isWrapper; first | (rw [if_pos (by decide +kernel)]; kernel_rfl) | (rw [if_neg (by decide +kernel)]; exact ⟨rfl, rfl⟩))
    (fun os started H enc _ => lifted os started H enc)

theorem proved : Rows.TintRowsSaid := over
#print axioms proved
end Go.Proofs.Ytageofpkfghllaa.tintRows
