/- What the document says that a matrix makes of a pixel: the contract. -/
import Derived.Test.YtageofpkfghllaaPixel
namespace Go.Proofs.Ytageofpkfghllaa
open Num Go.RowKit
set_option linter.unusedVariables false
set_option linter.unusedSimpArgs false
attribute [local go_sem ↓] Go.wp_at_zero Go.wp_at_succ

theorem sum_ref (m0 m1 m2 m3 m4 r g s a : Int) : m0 * r + m1 * g + m2 * s + m3 * a + 255 * m4 + 128 = sumI m0 m1 m2 m3 m4 r g s a := by unfold sumI; omega
theorem line_ref (l : List Int) (j : Nat) (r g s a : Int) : cutI ((nth l j * r + nth l (j + 1) * g + nth l (j + 2) * s + nth l (j + 3) * a + 255 * nth l (j + 4) + 128) / 256) = lineI l j r g s a := by
  rw [sum_ref]; rfl

set_option maxRecDepth 100000 in
set_option maxHeartbeats 2000000 in
theorem refPixel_any (ao : Option Addr) (n c b off : Nat) (l : List Int) (r g s a : Int) (w : World) (h : Vi w ao n c b off l) (hM : rightM l = true)
    (hr : 0 ≤ r ∧ r ≤ 255) (hg : 0 ≤ g ∧ g ≤ 255) (hs : 0 ≤ s ∧ s ≤ 255) (ha : 0 ≤ a ∧ a ≤ 255) :
    Calls Try.prog 13 #[.slice ao n c, .agg #[.int .u8 r, .int .u8 g, .int .u8 s, .int .u8 a]] w fun e w' => e = .returned (.agg #[.int .u8 (colI l 0 r g s a), .int .u8 (colI l 5 r g s a), .int .u8 (colI l 10 r g s a), .int .u8 (plnI l 15 r g s a)]) ∧ Below w.heap.size w w' := by
  obtain rfl : n = 20 := by rw [← vi_len h]; exact right_len hM
  obtain rfl := h.addr (by have := h.le; omega)
  have HV := hid (And.intro h hM)
  obtain ⟨d0, d1, d2⟩ : (0 ≤ divI r a ∧ divI r a ≤ 255) ∧ (0 ≤ divI g a ∧ divI g a ≤ 255) ∧ (0 ≤ divI s a ∧ divI s a ≤ 255) := ⟨div_bd hr.1 ha.1, div_bd hg.1 ha.1, div_bd hs.1 ha.1⟩
  have hP := Has4.new (W := w) rfl (.int .u8 r) (.int .u8 g) (.int .u8 s) (.int .u8 a) 24
  have hQ := Has4.new (W := w.alloc (.cells #[.int .u8 r, .int .u8 g, .int .u8 s, .int .u8 a] 24)) (k := w.heap.size + 1) (by simp) (.int .u8 0) (.int .u8 0) (.int .u8 0) (.int .u8 0) 24
  have hB : Below w.heap.size w ((w.alloc (.cells #[.int .u8 r, .int .u8 g, .int .u8 s, .int .u8 a] 24)).alloc (.cells #[.int .u8 0, .int .u8 0, .int .u8 0, .int .u8 0] 24)) := ((Below.refl _ _).alloc (Nat.le_refl _) _).alloc (by simp) _
  replace hP := hP.alloc (.cells #[.int .u8 0, .int .u8 0, .int .u8 0, .int .u8 0] 24)
  obtain ⟨p0, p1, p2, p3, pf⟩ := id hP
  clear h hM
  go_enter Try.func13, Try.ntmps13
  go_wp2_with (first
    | (go_at_call 21; with_reducible refine Calls.mono (refPlain_b _ _ _ _ _ ‹_› ‹_› ‹_› ‹_›) ?_; rintro e w2 ⟨rfl, hb⟩; replace hQ := hQ.below hb; replace hB := via (w := w) hB hb; clear hb hP p0 p1 p2 p3 pf))
  obtain ⟨k, hk⟩ : ∃ k, k = w2.heap.size := ⟨_, rfl⟩
  rw [← hk]
  obtain ⟨u0, hu0⟩ : ∃ x, x = divI r a := ⟨_, rfl⟩
  obtain ⟨u1, hu1⟩ : ∃ x, x = divI g a := ⟨_, rfl⟩
  obtain ⟨u2, hu2⟩ : ∃ x, x = divI s a := ⟨_, rfl⟩
  rw [← hu0, ← hu1, ← hu2]
  rw [← hu0] at d0
  rw [← hu1] at d1
  rw [← hu2] at d2
  have HU := hid (And.intro hu0 (And.intro hu1 hu2))
  clear hu0 hu1 hu2
  have hlq := World.block_lt_of_cell? w2 ⟨w.heap.size + 1, 0, none⟩ hQ.c0
  have hK : Has4 ((w2.alloc (.cells #[.int .u8 u0, .int .u8 u1, .int .u8 u2, .int .u8 a] 24)).alloc (.cells #[.int .u8 0, .int .u8 0, .int .u8 0, .int .u8 0] 24)) k (.int .u8 u0) (.int .u8 u1) (.int .u8 u2) (.int .u8 a) := (Has4.new (W := w2) hk _ _ _ _ 24).alloc _
  have hJ : Has4 ((w2.alloc (.cells #[.int .u8 u0, .int .u8 u1, .int .u8 u2, .int .u8 a] 24)).alloc (.cells #[.int .u8 0, .int .u8 0, .int .u8 0, .int .u8 0] 24)) (k + 1) (.int .u8 0) (.int .u8 0) (.int .u8 0) (.int .u8 0) := Has4.new (by simp [hk]) _ _ _ _ _
  replace hQ := (hQ.alloc (.cells #[.int .u8 u0, .int .u8 u1, .int .u8 u2, .int .u8 a] 24)).alloc (.cells #[.int .u8 0, .int .u8 0, .int .u8 0, .int .u8 0] 24)
  have hle : w.heap.size + 1 + 1 ≤ k := by rw [hk]; exact hlq
  replace hB : Below w.heap.size w ((w2.alloc (.cells #[.int .u8 u0, .int .u8 u1, .int .u8 u2, .int .u8 a] 24)).alloc (.cells #[.int .u8 0, .int .u8 0, .int .u8 0, .int .u8 0] 24)) := (hB.alloc hB.size _).alloc (by simp; omega) _
  refine wp_loop_rounds 5 ?_
  generalize ((w2.alloc (.cells #[.int .u8 u0, .int .u8 u1, .int .u8 u2, .int .u8 a] 24)).alloc (.cells #[.int .u8 0, .int .u8 0, .int .u8 0, .int .u8 0] 24)) = W0 at hK hJ hQ hB ⊢
  clear hk hlq
  rw [rounds_succ]
  have c0 : W0.cell? ⟨b, off, none⟩ = some (.int .i64 (nth l 0)) := vi_nth (HV.out.1.below hB) (i := 0) (by omega)
  have e0 := right_ok HV.out.2 (i := 0) (by omega)
  have c1 : W0.cell? ⟨b, off + 1, none⟩ = some (.int .i64 (nth l 1)) := vi_nth (HV.out.1.below hB) (i := 1) (by omega)
  have e1 := right_ok HV.out.2 (i := 1) (by omega)
  have c2 : W0.cell? ⟨b, off + 2, none⟩ = some (.int .i64 (nth l 2)) := vi_nth (HV.out.1.below hB) (i := 2) (by omega)
  have e2 := right_ok HV.out.2 (i := 2) (by omega)
  have c3 : W0.cell? ⟨b, off + 3, none⟩ = some (.int .i64 (nth l 3)) := vi_nth (HV.out.1.below hB) (i := 3) (by omega)
  have e3 := right_ok HV.out.2 (i := 3) (by omega)
  have c4 : W0.cell? ⟨b, off + 4, none⟩ = some (.int .i64 (nth l 4)) := vi_nth (HV.out.1.below hB) (i := 4) (by omega)
  have e4 := right_ok HV.out.2 (i := 4) (by omega)
  have f0 := prod_sm e0 d0
  have f1 := prod_sm e1 d1
  have f2 := prod_sm e2 d2
  have f3 := prod_sm e3 ha
  have es : cutI ((nth l 0 * u0 + nth l 1 * u1 + nth l 2 * u2 + nth l 3 * a + 255 * nth l 4 + 128) / 256) = lineI l 0 u0 u1 u2 a := line_ref l 0 u0 u1 u2 a
  obtain ⟨k0, k1, k2, k3, kf⟩ := id hK
  obtain ⟨j0, j1, j2, j3, jf⟩ := id hJ
  go_wp2
  go_quiet (fail)
  go_wp2_with (first | (go_at_call 23; with_reducible refine Calls.mono (down_any _ _ ⟨by omega, by omega⟩) ?_; rintro e w5 ⟨rfl, rfl⟩) | (go_at_call 22; with_reducible refine Calls.mono (refCut_any _ _ ⟨by omega, by omega⟩) ?_; rintro e w6 ⟨rfl, rfl⟩))
  have hD : Below W0.heap.size W0 (W0.drewN nq) := below_drewN (Below.refl _ _) nq
  replace hK := (hK.below hD).set_far (j := k + 1) (by omega) 0 (.int .u8 (lineI l 0 u0 u1 u2 a))
  replace hQ := (hQ.below hD).set_far (j := k + 1) (by omega) 0 (.int .u8 (lineI l 0 u0 u1 u2 a))
  replace hJ := (hJ.below hD).set0 (.int .u8 (lineI l 0 u0 u1 u2 a))
  replace hB : Below w.heap.size w ((W0.drewN nq).setCell ⟨k + 1, 0, none⟩ (.int .u8 (lineI l 0 u0 u1 u2 a))) := (via (w := w) hB hD).setCell (p := ⟨k + 1, 0, none⟩) (by simp; omega) _
  clear c0 c1 c2 c3 c4 e0 e1 e2 e3 e4 f0 f1 f2 f3 es k0 k1 k2 k3 kf j0 j1 j2 j3 jf hD
  generalize ((W0.drewN nq).setCell ⟨k + 1, 0, none⟩ (.int .u8 (lineI l 0 u0 u1 u2 a))) = W1 at hK hJ hQ hB ⊢
  rw [rounds_succ]
  have c0 : W1.cell? ⟨b, off + 5, none⟩ = some (.int .i64 (nth l 5)) := vi_nth (HV.out.1.below hB) (i := 5) (by omega)
  have e0 := right_ok HV.out.2 (i := 5) (by omega)
  have c1 : W1.cell? ⟨b, off + 6, none⟩ = some (.int .i64 (nth l 6)) := vi_nth (HV.out.1.below hB) (i := 6) (by omega)
  have e1 := right_ok HV.out.2 (i := 6) (by omega)
  have c2 : W1.cell? ⟨b, off + 7, none⟩ = some (.int .i64 (nth l 7)) := vi_nth (HV.out.1.below hB) (i := 7) (by omega)
  have e2 := right_ok HV.out.2 (i := 7) (by omega)
  have c3 : W1.cell? ⟨b, off + 8, none⟩ = some (.int .i64 (nth l 8)) := vi_nth (HV.out.1.below hB) (i := 8) (by omega)
  have e3 := right_ok HV.out.2 (i := 8) (by omega)
  have c4 : W1.cell? ⟨b, off + 9, none⟩ = some (.int .i64 (nth l 9)) := vi_nth (HV.out.1.below hB) (i := 9) (by omega)
  have e4 := right_ok HV.out.2 (i := 9) (by omega)
  have f0 := prod_sm e0 d0
  have f1 := prod_sm e1 d1
  have f2 := prod_sm e2 d2
  have f3 := prod_sm e3 ha
  have es : cutI ((nth l 5 * u0 + nth l 6 * u1 + nth l 7 * u2 + nth l 8 * a + 255 * nth l 9 + 128) / 256) = lineI l 5 u0 u1 u2 a := line_ref l 5 u0 u1 u2 a
  obtain ⟨k0, k1, k2, k3, kf⟩ := id hK
  obtain ⟨j0, j1, j2, j3, jf⟩ := id hJ
  go_wp2
  go_quiet (fail)
  go_wp2_with (first | (go_at_call 23; with_reducible refine Calls.mono (down_any _ _ ⟨by omega, by omega⟩) ?_; rintro e w5 ⟨rfl, rfl⟩) | (go_at_call 22; with_reducible refine Calls.mono (refCut_any _ _ ⟨by omega, by omega⟩) ?_; rintro e w6 ⟨rfl, rfl⟩))
  have hD : Below W1.heap.size W1 (W1.drewN nq) := below_drewN (Below.refl _ _) nq
  replace hK := (hK.below hD).set_far (j := k + 1) (by omega) 1 (.int .u8 (lineI l 5 u0 u1 u2 a))
  replace hQ := (hQ.below hD).set_far (j := k + 1) (by omega) 1 (.int .u8 (lineI l 5 u0 u1 u2 a))
  replace hJ := (hJ.below hD).set1 (.int .u8 (lineI l 5 u0 u1 u2 a))
  replace hB : Below w.heap.size w ((W1.drewN nq).setCell ⟨k + 1, 1, none⟩ (.int .u8 (lineI l 5 u0 u1 u2 a))) := (via (w := w) hB hD).setCell (p := ⟨k + 1, 1, none⟩) (by simp; omega) _
  clear c0 c1 c2 c3 c4 e0 e1 e2 e3 e4 f0 f1 f2 f3 es k0 k1 k2 k3 kf j0 j1 j2 j3 jf hD
  generalize ((W1.drewN nq).setCell ⟨k + 1, 1, none⟩ (.int .u8 (lineI l 5 u0 u1 u2 a))) = W2 at hK hJ hQ hB ⊢
  rw [rounds_succ]
  have c0 : W2.cell? ⟨b, off + 10, none⟩ = some (.int .i64 (nth l 10)) := vi_nth (HV.out.1.below hB) (i := 10) (by omega)
  have e0 := right_ok HV.out.2 (i := 10) (by omega)
  have c1 : W2.cell? ⟨b, off + 11, none⟩ = some (.int .i64 (nth l 11)) := vi_nth (HV.out.1.below hB) (i := 11) (by omega)
  have e1 := right_ok HV.out.2 (i := 11) (by omega)
  have c2 : W2.cell? ⟨b, off + 12, none⟩ = some (.int .i64 (nth l 12)) := vi_nth (HV.out.1.below hB) (i := 12) (by omega)
  have e2 := right_ok HV.out.2 (i := 12) (by omega)
  have c3 : W2.cell? ⟨b, off + 13, none⟩ = some (.int .i64 (nth l 13)) := vi_nth (HV.out.1.below hB) (i := 13) (by omega)
  have e3 := right_ok HV.out.2 (i := 13) (by omega)
  have c4 : W2.cell? ⟨b, off + 14, none⟩ = some (.int .i64 (nth l 14)) := vi_nth (HV.out.1.below hB) (i := 14) (by omega)
  have e4 := right_ok HV.out.2 (i := 14) (by omega)
  have f0 := prod_sm e0 d0
  have f1 := prod_sm e1 d1
  have f2 := prod_sm e2 d2
  have f3 := prod_sm e3 ha
  have es : cutI ((nth l 10 * u0 + nth l 11 * u1 + nth l 12 * u2 + nth l 13 * a + 255 * nth l 14 + 128) / 256) = lineI l 10 u0 u1 u2 a := line_ref l 10 u0 u1 u2 a
  obtain ⟨k0, k1, k2, k3, kf⟩ := id hK
  obtain ⟨j0, j1, j2, j3, jf⟩ := id hJ
  go_wp2
  go_quiet (fail)
  go_wp2_with (first | (go_at_call 23; with_reducible refine Calls.mono (down_any _ _ ⟨by omega, by omega⟩) ?_; rintro e w5 ⟨rfl, rfl⟩) | (go_at_call 22; with_reducible refine Calls.mono (refCut_any _ _ ⟨by omega, by omega⟩) ?_; rintro e w6 ⟨rfl, rfl⟩))
  have hD : Below W2.heap.size W2 (W2.drewN nq) := below_drewN (Below.refl _ _) nq
  replace hK := (hK.below hD).set_far (j := k + 1) (by omega) 2 (.int .u8 (lineI l 10 u0 u1 u2 a))
  replace hQ := (hQ.below hD).set_far (j := k + 1) (by omega) 2 (.int .u8 (lineI l 10 u0 u1 u2 a))
  replace hJ := (hJ.below hD).set2 (.int .u8 (lineI l 10 u0 u1 u2 a))
  replace hB : Below w.heap.size w ((W2.drewN nq).setCell ⟨k + 1, 2, none⟩ (.int .u8 (lineI l 10 u0 u1 u2 a))) := (via (w := w) hB hD).setCell (p := ⟨k + 1, 2, none⟩) (by simp; omega) _
  clear c0 c1 c2 c3 c4 e0 e1 e2 e3 e4 f0 f1 f2 f3 es k0 k1 k2 k3 kf j0 j1 j2 j3 jf hD
  generalize ((W2.drewN nq).setCell ⟨k + 1, 2, none⟩ (.int .u8 (lineI l 10 u0 u1 u2 a))) = W3 at hK hJ hQ hB ⊢
  rw [rounds_succ]
  have c0 : W3.cell? ⟨b, off + 15, none⟩ = some (.int .i64 (nth l 15)) := vi_nth (HV.out.1.below hB) (i := 15) (by omega)
  have e0 := right_ok HV.out.2 (i := 15) (by omega)
  have c1 : W3.cell? ⟨b, off + 16, none⟩ = some (.int .i64 (nth l 16)) := vi_nth (HV.out.1.below hB) (i := 16) (by omega)
  have e1 := right_ok HV.out.2 (i := 16) (by omega)
  have c2 : W3.cell? ⟨b, off + 17, none⟩ = some (.int .i64 (nth l 17)) := vi_nth (HV.out.1.below hB) (i := 17) (by omega)
  have e2 := right_ok HV.out.2 (i := 17) (by omega)
  have c3 : W3.cell? ⟨b, off + 18, none⟩ = some (.int .i64 (nth l 18)) := vi_nth (HV.out.1.below hB) (i := 18) (by omega)
  have e3 := right_ok HV.out.2 (i := 18) (by omega)
  have c4 : W3.cell? ⟨b, off + 19, none⟩ = some (.int .i64 (nth l 19)) := vi_nth (HV.out.1.below hB) (i := 19) (by omega)
  have e4 := right_ok HV.out.2 (i := 19) (by omega)
  have f0 := prod_sm e0 d0
  have f1 := prod_sm e1 d1
  have f2 := prod_sm e2 d2
  have f3 := prod_sm e3 ha
  have es : cutI ((nth l 15 * u0 + nth l 16 * u1 + nth l 17 * u2 + nth l 18 * a + 255 * nth l 19 + 128) / 256) = lineI l 15 u0 u1 u2 a := line_ref l 15 u0 u1 u2 a
  obtain ⟨k0, k1, k2, k3, kf⟩ := id hK
  obtain ⟨j0, j1, j2, j3, jf⟩ := id hJ
  go_wp2
  go_quiet (fail)
  go_wp2_with (first | (go_at_call 23; with_reducible refine Calls.mono (down_any _ _ ⟨by omega, by omega⟩) ?_; rintro e w5 ⟨rfl, rfl⟩) | (go_at_call 22; with_reducible refine Calls.mono (refCut_any _ _ ⟨by omega, by omega⟩) ?_; rintro e w6 ⟨rfl, rfl⟩))
  have hD : Below W3.heap.size W3 (W3.drewN nq) := below_drewN (Below.refl _ _) nq
  replace hK := (hK.below hD).set_far (j := k + 1) (by omega) 3 (.int .u8 (lineI l 15 u0 u1 u2 a))
  replace hQ := (hQ.below hD).set_far (j := k + 1) (by omega) 3 (.int .u8 (lineI l 15 u0 u1 u2 a))
  replace hJ := (hJ.below hD).set3 (.int .u8 (lineI l 15 u0 u1 u2 a))
  replace hB : Below w.heap.size w ((W3.drewN nq).setCell ⟨k + 1, 3, none⟩ (.int .u8 (lineI l 15 u0 u1 u2 a))) := (via (w := w) hB hD).setCell (p := ⟨k + 1, 3, none⟩) (by simp; omega) _
  clear c0 c1 c2 c3 c4 e0 e1 e2 e3 e4 f0 f1 f2 f3 es k0 k1 k2 k3 kf j0 j1 j2 j3 jf hD
  generalize ((W3.drewN nq).setCell ⟨k + 1, 3, none⟩ (.int .u8 (lineI l 15 u0 u1 u2 a))) = W4 at hK hJ hQ hB ⊢
  obtain ⟨j0, j1, j2, j3, jf⟩ := id hJ
  rw [rounds_succ]
  go_wp2_with (go_at_call 24; with_reducible refine Calls.mono (refThick_b _ _ _ _ _ (line_bd _ _ _ _ _ _) (line_bd _ _ _ _ _ _) (line_bd _ _ _ _ _ _) (line_bd _ _ _ _ _ _)) ?_; rintro e w4 ⟨rfl, hb4⟩; replace hQ := hQ.below hb4; replace hB := via (w := w) hB hb4; obtain ⟨q0, q1, q2, q3, qf⟩ := id hQ)
  obtain ⟨hu0, hu1, hu2⟩ := HU.out
  subst hu0
  subst hu1
  subst hu2
  have hR := hQ.set (.int .u8 (mulI (lineI l 0 (divI r a) (divI g a) (divI s a) a) (lineI l 15 (divI r a) (divI g a) (divI s a) a))) (.int .u8 (mulI (lineI l 5 (divI r a) (divI g a) (divI s a) a) (lineI l 15 (divI r a) (divI g a) (divI s a) a))) (.int .u8 (mulI (lineI l 10 (divI r a) (divI g a) (divI s a) a) (lineI l 15 (divI r a) (divI g a) (divI s a) a))) (.int .u8 (lineI l 15 (divI r a) (divI g a) (divI s a) a))
  obtain ⟨r0, r1, r2, r3, rf⟩ := hR
  refine bodyPost_ret (v := .agg #[.int .u8 (colI l 0 r g s a), .int .u8 (colI l 5 r g s a), .int .u8 (colI l 10 r g s a), .int .u8 (plnI l 15 r g s a)]) (by simp [results, Try.results13, go_sem, r0, r1, r2, r3]; exact ⟨rfl, rfl, rfl, rfl⟩) rfl ⟨rfl, ?_⟩
  go_grown
end Go.Proofs.Ytageofpkfghllaa
