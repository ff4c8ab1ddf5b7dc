/- What a matrix makes of a pixel: the contract. -/
import Derived.Test.YtageofpkfghllaaHold
namespace Go.Proofs.Ytageofpkfghllaa
open Num Go.RowKit
set_option linter.unusedVariables false
set_option linter.unusedSimpArgs false
attribute [local go_sem ↓] Go.wp_at_zero Go.wp_at_succ

/-- contracts whose answer's world is only known to keep what was there -/
theorem plain_b (r g b a : Int) (w : World) (hr : 0 ≤ r ∧ r ≤ 255) (hg : 0 ≤ g ∧ g ≤ 255) (hb : 0 ≤ b ∧ b ≤ 255) (ha : 0 ≤ a ∧ a ≤ 255) :
    Calls Try.prog 18 #[.agg #[.int .u8 r, .int .u8 g, .int .u8 b, .int .u8 a]] w fun e w' => e = .returned (.agg #[.int .u8 (divI r a), .int .u8 (divI g a), .int .u8 (divI b a), .int .u8 a]) ∧ Below w.heap.size w w' :=
  (plain_any r g b a w hr hg hb ha).mono fun e w' ⟨he, c1, c2, n, hw⟩ => ⟨he, by subst hw; exact below_drewN (((Below.refl _ _).alloc (Nat.le_refl _) _).alloc (by simp) _) n⟩
theorem thick_b (r g b a : Int) (w : World) (hr : 0 ≤ r ∧ r ≤ 255) (hg : 0 ≤ g ∧ g ≤ 255) (hb : 0 ≤ b ∧ b ≤ 255) (ha : 0 ≤ a ∧ a ≤ 255) :
    Calls Try.prog 20 #[.agg #[.int .u8 r, .int .u8 g, .int .u8 b, .int .u8 a]] w fun e w' => e = .returned (.agg #[.int .u8 (mulI r a), .int .u8 (mulI g a), .int .u8 (mulI b a), .int .u8 a]) ∧ Below w.heap.size w w' :=
  (thick_any r g b a w hr hg hb ha).mono fun e w' ⟨he, c1, c2, n, hw⟩ => ⟨he, by subst hw; exact below_drewN (((Below.refl _ _).alloc (Nat.le_refl _) _).alloc (by simp) _) n⟩
theorem refPlain_b (r g b a : Int) (w : World) (hr : 0 ≤ r ∧ r ≤ 255) (hg : 0 ≤ g ∧ g ≤ 255) (hb : 0 ≤ b ∧ b ≤ 255) (ha : 0 ≤ a ∧ a ≤ 255) :
    Calls Try.prog 21 #[.agg #[.int .u8 r, .int .u8 g, .int .u8 b, .int .u8 a]] w fun e w' => e = .returned (.agg #[.int .u8 (divI r a), .int .u8 (divI g a), .int .u8 (divI b a), .int .u8 a]) ∧ Below w.heap.size w w' :=
  (refPlain_any r g b a w hr hg hb ha).mono fun e w' ⟨he, c1, c2, n, hw⟩ => ⟨he, by subst hw; exact below_drewN (((Below.refl _ _).alloc (Nat.le_refl _) _).alloc (by simp) _) n⟩
theorem refThick_b (r g b a : Int) (w : World) (hr : 0 ≤ r ∧ r ≤ 255) (hg : 0 ≤ g ∧ g ≤ 255) (hb : 0 ≤ b ∧ b ≤ 255) (ha : 0 ≤ a ∧ a ≤ 255) :
    Calls Try.prog 24 #[.agg #[.int .u8 r, .int .u8 g, .int .u8 b, .int .u8 a]] w fun e w' => e = .returned (.agg #[.int .u8 (mulI r a), .int .u8 (mulI g a), .int .u8 (mulI b a), .int .u8 a]) ∧ Below w.heap.size w w' :=
  (refThick_any r g b a w hr hg hb ha).mono fun e w' ⟨he, c1, c2, n, hw⟩ => ⟨he, by subst hw; exact below_drewN (((Below.refl _ _).alloc (Nat.le_refl _) _).alloc (by simp) _) n⟩

/-- a row of a matrix -/
theorem line_any (n' c c' b off j : Nat) (l : List Int) (r g s a : Int) (w : World) (hV : Vi w (some ⟨b, off, none⟩) 20 c b off l) (hM : rightM l = true) (hj : j ≤ 15) (hn : 5 ≤ n' ∧ n' ≤ 20)
    (hr : 0 ≤ r ∧ r ≤ 255) (hg : 0 ≤ g ∧ g ≤ 255) (hs : 0 ≤ s ∧ s ≤ 255) (ha : 0 ≤ a ∧ a ≤ 255) :
    Calls Try.prog 19 #[.slice (some ⟨b, off + j, none⟩) n' c', .agg #[.int .u8 r, .int .u8 g, .int .u8 s, .int .u8 a]] w fun e w' => e = .returned (.int .u8 (lineI l j r g s a)) ∧ Below w.heap.size w w' := by
  have f : ∀ i, i < 5 → w.cell? ⟨b, off + j + i, none⟩ = some (.int .i64 (nth l (j + i))) := fun i hi => by
    rw [Nat.add_assoc]
    exact vi_nth hV (by omega)
  exact row_any n' c' b (off + j) _ _ _ _ _ r g s a w hn (f 0 (by omega)) (f 1 (by omega)) (f 2 (by omega)) (f 3 (by omega)) (f 4 (by omega)) (right_ok hM (by omega)) (right_ok hM (by omega)) (right_ok hM (by omega)) (right_ok hM (by omega)) (right_ok hM (by omega)) hr hg hs ha

/-- the rows of a matrix, from one on -/
theorem cutAt (c b off j : Nat) (hj : j ≤ 15) (hc : 20 ≤ c) (w : World) : (Instr.slice 22 (.slice (some ⟨b, off, none⟩) 20 c) (some (.int .i64 (j : Int))) none none).run Try.prog w = .ok (.slice (some ⟨b, off + j, none⟩) (20 - j) (c - j)) w := by
  have h1 : ¬ (c = j) := by omega
  have z3 := Try.sizeOf3
  have u22 := Try.underlying22
  have e1 : Try.prog.elem 22 = 3 := by simp [Program.elem, u22]
  rw [run_slice_l (w := w) (t := 22) (ht := by rw [e1]; exact u22) (kl := .i64) (h0 := by omega) (h1 := by omega), e1]
  simp [go_sem, sliced, h1, z3, Addr.add]
theorem cutAt' (c b off j : Nat) (hj : j ≤ 15) (hc : 20 ≤ c) (w : World) : (Instr.sliceAt 22 (.slice (some ⟨b, off, none⟩) 20 c) (some (.int .i64 (j : Int))) none none).run Try.prog w = .ok (.slice (some ⟨b, off + j, none⟩) (20 - j) (c - j)) w := by
  have u22 := Try.underlying22
  have e1 : Try.prog.elem 22 = 3 := by simp [Program.elem, u22]
  rw [run_sliceAt_slice (h := by rw [e1]; exact u22), cutAt c b off j hj hc w]
set_option maxRecDepth 100000 in
set_option maxHeartbeats 2000000 in
theorem pixel_any (ao : Option Addr) (n c b off : Nat) (l : List Int) (r g s a : Int) (w : World) (h : Vi w ao n c b off l) (hM : rightM l = true)
    (hr : 0 ≤ r ∧ r ≤ 255) (hg : 0 ≤ g ∧ g ≤ 255) (hs : 0 ≤ s ∧ s ≤ 255) (ha : 0 ≤ a ∧ a ≤ 255) :
    Calls Try.prog 12 #[.slice ao n c, .agg #[.int .u8 r, .int .u8 g, .int .u8 s, .int .u8 a]] w fun e w' => e = .returned (.agg #[.int .u8 (colI l 0 r g s a), .int .u8 (colI l 5 r g s a), .int .u8 (colI l 10 r g s a), .int .u8 (plnI l 15 r g s a)]) ∧ Below w.heap.size w w' := by
  obtain rfl : n = 20 := by rw [← vi_len h]; exact right_len hM
  obtain rfl := h.addr (by have := h.le; omega)
  have hc : 20 ≤ c := h.le
  have hcm : c ≤ 9223372036854775807 := h.max
  have HV := hid (And.intro h hM)
  have x0 : IntKind.i64.wrap 0 = 0 := rfl
  have x5 : IntKind.i64.wrap 5 = 5 := rfl
  have x10 : IntKind.i64.wrap 10 = 10 := rfl
  have x15 : IntKind.i64.wrap 15 = 15 := rfl
  have kc0 : ∀ w : World, (Instr.slice 22 (.slice (some ⟨b, off, none⟩) 20 c) (some (.int .i64 0)) none none).run Try.prog w = .ok (.slice (some ⟨b, off, none⟩) 20 (c)) w := cutAt c b off 0 (by omega) hc
  have tc0 : ∀ w : World, (Instr.sliceAt 22 (.slice (some ⟨b, off, none⟩) 20 c) (some (.int .i64 0)) none none).run Try.prog w = .ok (.slice (some ⟨b, off, none⟩) 20 (c)) w := cutAt' c b off 0 (by omega) hc
  have kc5 : ∀ w : World, (Instr.slice 22 (.slice (some ⟨b, off, none⟩) 20 c) (some (.int .i64 5)) none none).run Try.prog w = .ok (.slice (some ⟨b, off + 5, none⟩) 15 (c - 5)) w := cutAt c b off 5 (by omega) hc
  have tc5 : ∀ w : World, (Instr.sliceAt 22 (.slice (some ⟨b, off, none⟩) 20 c) (some (.int .i64 5)) none none).run Try.prog w = .ok (.slice (some ⟨b, off + 5, none⟩) 15 (c - 5)) w := cutAt' c b off 5 (by omega) hc
  have kc10 : ∀ w : World, (Instr.slice 22 (.slice (some ⟨b, off, none⟩) 20 c) (some (.int .i64 10)) none none).run Try.prog w = .ok (.slice (some ⟨b, off + 10, none⟩) 10 (c - 10)) w := cutAt c b off 10 (by omega) hc
  have tc10 : ∀ w : World, (Instr.sliceAt 22 (.slice (some ⟨b, off, none⟩) 20 c) (some (.int .i64 10)) none none).run Try.prog w = .ok (.slice (some ⟨b, off + 10, none⟩) 10 (c - 10)) w := cutAt' c b off 10 (by omega) hc
  have kc15 : ∀ w : World, (Instr.slice 22 (.slice (some ⟨b, off, none⟩) 20 c) (some (.int .i64 15)) none none).run Try.prog w = .ok (.slice (some ⟨b, off + 15, none⟩) 5 (c - 15)) w := cutAt c b off 15 (by omega) hc
  have tc15 : ∀ w : World, (Instr.sliceAt 22 (.slice (some ⟨b, off, none⟩) 20 c) (some (.int .i64 15)) none none).run Try.prog w = .ok (.slice (some ⟨b, off + 15, none⟩) 5 (c - 15)) w := cutAt' c b off 15 (by omega) hc
  have d0 := div_bd hr.1 ha.1
  have d1 := div_bd hg.1 ha.1
  have d2 := div_bd hs.1 ha.1
  have hP := Has4.new (W := w) rfl (.int .u8 r) (.int .u8 g) (.int .u8 s) (.int .u8 a) 24
  have hQ := Has4.new (W := w.alloc (.cells #[.int .u8 r, .int .u8 g, .int .u8 s, .int .u8 a] 24)) (k := w.heap.size + 1) (by simp) (.int .u8 0) (.int .u8 0) (.int .u8 0) (.int .u8 0) 24
  have hB : Below w.heap.size w ((w.alloc (.cells #[.int .u8 r, .int .u8 g, .int .u8 s, .int .u8 a] 24)).alloc (.cells #[.int .u8 0, .int .u8 0, .int .u8 0, .int .u8 0] 24)) := ((Below.refl _ _).alloc (Nat.le_refl _) _).alloc (by simp) _
  replace hP := hP.alloc (.cells #[.int .u8 0, .int .u8 0, .int .u8 0, .int .u8 0] 24)
  clear h hM
  go_enter Try.func12, Try.ntmps12
  go_wp2_with (first
    | (go_at_call 9; with_reducible refine Calls.mono (mRight_any _ _ _ b off l _ (HV.out.1.below hB)) ?_; rintro e w1 ⟨rfl, hb⟩; rw [HV.out.2]; replace hP := hP.below hb; replace hQ := hQ.below hb; replace hB := via (w := w) hB hb; clear hb; obtain ⟨p0, p1, p2, p3, pf⟩ := id hP)
    | (go_at_call 18; with_reducible refine Calls.mono (plain_b _ _ _ _ _ ‹_› ‹_› ‹_› ‹_›) ?_; rintro e w2 ⟨rfl, hb⟩; replace hQ := hQ.below hb; replace hB := via (w := w) hB hb; clear hb hP p0 p1 p2 p3 pf))
  obtain ⟨k, hk⟩ : ∃ k, k = w2.heap.size := ⟨_, rfl⟩
  rw [← hk]
  have hS : S2 w k (w.heap.size + 1) (k + 1) (.int .u8 (divI r a)) (.int .u8 (divI g a)) (.int .u8 (divI s a)) (.int .u8 a) ((w2.alloc (.cells #[.int .u8 (divI r a), .int .u8 (divI g a), .int .u8 (divI s a), .int .u8 a] 24)).alloc (.cells #[.int .u8 0, .int .u8 0, .int .u8 0, .int .u8 0] 24)) := by
    have g1 := (Has4.new (W := w2) hk (.int .u8 (divI r a)) (.int .u8 (divI g a)) (.int .u8 (divI s a)) (.int .u8 a) 24).alloc (.cells #[.int .u8 0, .int .u8 0, .int .u8 0, .int .u8 0] 24)
    have g2 := Has4.new (W := w2.alloc (.cells #[.int .u8 (divI r a), .int .u8 (divI g a), .int .u8 (divI s a), .int .u8 a] 24)) (k := k + 1) (by simp [hk]) (.int .u8 0) (.int .u8 0) (.int .u8 0) (.int .u8 0) 24
    have hle := hB.size
    exact ⟨⟨g1.c0, g1.c1, g1.c2, g1.c3⟩, (hB.alloc hB.size _).alloc (by simp; omega) _, by omega, by omega, ⟨_, _, _, _, (hQ.alloc _).alloc _⟩, ⟨_, _, _, _, g2⟩⟩
  have hJ : Has4 ((w2.alloc (.cells #[.int .u8 (divI r a), .int .u8 (divI g a), .int .u8 (divI s a), .int .u8 a] 24)).alloc (.cells #[.int .u8 0, .int .u8 0, .int .u8 0, .int .u8 0] 24)) (k + 1) (.int .u8 0) (.int .u8 0) (.int .u8 0) (.int .u8 0) := Has4.new (by simp [hk]) _ _ _ _ _
  refine wp_loop_rounds 5 ?_
  generalize ((w2.alloc (.cells #[.int .u8 (divI r a), .int .u8 (divI g a), .int .u8 (divI s a), .int .u8 a] 24)).alloc (.cells #[.int .u8 0, .int .u8 0, .int .u8 0, .int .u8 0] 24)) = W0 at hS hJ ⊢
  clear hk hQ hB
  rw [rounds_succ]
  go_wp2
  go_region_held3 (fun w' => (w'.cell? ⟨k, 0, none⟩ = some (.int .u8 (divI r a)) ∧ w'.cell? ⟨k, 1, none⟩ = some (.int .u8 (divI g a)) ∧ w'.cell? ⟨k, 2, none⟩ = some (.int .u8 (divI s a)) ∧ w'.cell? ⟨k, 3, none⟩ = some (.int .u8 a)) ∧ Rest2 w (w.heap.size + 1) (k + 1) w') (repeat (first | with_reducible assumption | with_reducible refine s2_drew ?_ | with_reducible refine s2_set (by omega) ?_ | with_reducible refine s2_below ?_ ‹_›))
    ((first | (go_at_call 19; with_reducible refine Calls.mono (line_any _ c _ b off 0 l _ _ _ _ _ (HV.out.1.below (s2_out hS).drew) HV.out.2 (by omega) (by omega) ‹_› ‹_› ‹_› ‹_›) ?_; rintro e w3 ⟨rfl, hb3⟩; have hJ3 := (hJ.below (Below.refl _ _).drew).below hb3; obtain ⟨t0, t1, t2, t3, tf⟩ := id hJ3)))
  have hS3 : S2 w k (w.heap.size + 1) (k + 1) (.int .u8 (divI r a)) (.int .u8 (divI g a)) (.int .u8 (divI s a)) (.int .u8 a) (w3.setCell ⟨k + 1, 0, none⟩ (.int .u8 (lineI l 0 (divI r a) (divI g a) (divI s a) a))) := by assumption
  replace hJ := hJ3.set0 (.int .u8 (lineI l 0 (divI r a) (divI g a) (divI s a) a))
  clear hS hJ3 hb3 t0 t1 t2 t3 tf
  go_wp2
  generalize (w3.setCell ⟨k + 1, 0, none⟩ (.int .u8 (lineI l 0 (divI r a) (divI g a) (divI s a) a))) = W1 at hS3 hJ ⊢
  have hS := hS3
  clear hS3
  rw [rounds_succ]
  go_wp2
  go_region_held3 (fun w' => (w'.cell? ⟨k, 0, none⟩ = some (.int .u8 (divI r a)) ∧ w'.cell? ⟨k, 1, none⟩ = some (.int .u8 (divI g a)) ∧ w'.cell? ⟨k, 2, none⟩ = some (.int .u8 (divI s a)) ∧ w'.cell? ⟨k, 3, none⟩ = some (.int .u8 a)) ∧ Rest2 w (w.heap.size + 1) (k + 1) w') (repeat (first | with_reducible assumption | with_reducible refine s2_drew ?_ | with_reducible refine s2_set (by omega) ?_ | with_reducible refine s2_below ?_ ‹_›))
    ((first | (go_at_call 19; with_reducible refine Calls.mono (line_any _ c _ b off 5 l _ _ _ _ _ (HV.out.1.below (s2_out hS).drew) HV.out.2 (by omega) (by omega) ‹_› ‹_› ‹_› ‹_›) ?_; rintro e w3 ⟨rfl, hb3⟩; have hJ3 := (hJ.below (Below.refl _ _).drew).below hb3; obtain ⟨t0, t1, t2, t3, tf⟩ := id hJ3)))
  have hS3 : S2 w k (w.heap.size + 1) (k + 1) (.int .u8 (divI r a)) (.int .u8 (divI g a)) (.int .u8 (divI s a)) (.int .u8 a) (w3.setCell ⟨k + 1, 1, none⟩ (.int .u8 (lineI l 5 (divI r a) (divI g a) (divI s a) a))) := by assumption
  replace hJ := hJ3.set1 (.int .u8 (lineI l 5 (divI r a) (divI g a) (divI s a) a))
  clear hS hJ3 hb3 t0 t1 t2 t3 tf
  go_wp2
  generalize (w3.setCell ⟨k + 1, 1, none⟩ (.int .u8 (lineI l 5 (divI r a) (divI g a) (divI s a) a))) = W2 at hS3 hJ ⊢
  have hS := hS3
  clear hS3
  rw [rounds_succ]
  go_wp2
  go_region_held3 (fun w' => (w'.cell? ⟨k, 0, none⟩ = some (.int .u8 (divI r a)) ∧ w'.cell? ⟨k, 1, none⟩ = some (.int .u8 (divI g a)) ∧ w'.cell? ⟨k, 2, none⟩ = some (.int .u8 (divI s a)) ∧ w'.cell? ⟨k, 3, none⟩ = some (.int .u8 a)) ∧ Rest2 w (w.heap.size + 1) (k + 1) w') (repeat (first | with_reducible assumption | with_reducible refine s2_drew ?_ | with_reducible refine s2_set (by omega) ?_ | with_reducible refine s2_below ?_ ‹_›))
    ((first | (go_at_call 19; with_reducible refine Calls.mono (line_any _ c _ b off 10 l _ _ _ _ _ (HV.out.1.below (s2_out hS).drew) HV.out.2 (by omega) (by omega) ‹_› ‹_› ‹_› ‹_›) ?_; rintro e w3 ⟨rfl, hb3⟩; have hJ3 := (hJ.below (Below.refl _ _).drew).below hb3; obtain ⟨t0, t1, t2, t3, tf⟩ := id hJ3)))
  have hS3 : S2 w k (w.heap.size + 1) (k + 1) (.int .u8 (divI r a)) (.int .u8 (divI g a)) (.int .u8 (divI s a)) (.int .u8 a) (w3.setCell ⟨k + 1, 2, none⟩ (.int .u8 (lineI l 10 (divI r a) (divI g a) (divI s a) a))) := by assumption
  replace hJ := hJ3.set2 (.int .u8 (lineI l 10 (divI r a) (divI g a) (divI s a) a))
  clear hS hJ3 hb3 t0 t1 t2 t3 tf
  go_wp2
  generalize (w3.setCell ⟨k + 1, 2, none⟩ (.int .u8 (lineI l 10 (divI r a) (divI g a) (divI s a) a))) = W3 at hS3 hJ ⊢
  have hS := hS3
  clear hS3
  rw [rounds_succ]
  go_wp2
  go_region_held3 (fun w' => (w'.cell? ⟨k, 0, none⟩ = some (.int .u8 (divI r a)) ∧ w'.cell? ⟨k, 1, none⟩ = some (.int .u8 (divI g a)) ∧ w'.cell? ⟨k, 2, none⟩ = some (.int .u8 (divI s a)) ∧ w'.cell? ⟨k, 3, none⟩ = some (.int .u8 a)) ∧ Rest2 w (w.heap.size + 1) (k + 1) w') (repeat (first | with_reducible assumption | with_reducible refine s2_drew ?_ | with_reducible refine s2_set (by omega) ?_ | with_reducible refine s2_below ?_ ‹_›))
    ((first | (go_at_call 19; with_reducible refine Calls.mono (line_any _ c _ b off 15 l _ _ _ _ _ (HV.out.1.below (s2_out hS).drew) HV.out.2 (by omega) (by omega) ‹_› ‹_› ‹_› ‹_›) ?_; rintro e w3 ⟨rfl, hb3⟩; have hJ3 := (hJ.below (Below.refl _ _).drew).below hb3; obtain ⟨t0, t1, t2, t3, tf⟩ := id hJ3)))
  have hS3 : S2 w k (w.heap.size + 1) (k + 1) (.int .u8 (divI r a)) (.int .u8 (divI g a)) (.int .u8 (divI s a)) (.int .u8 a) (w3.setCell ⟨k + 1, 3, none⟩ (.int .u8 (lineI l 15 (divI r a) (divI g a) (divI s a) a))) := by assumption
  replace hJ := hJ3.set3 (.int .u8 (lineI l 15 (divI r a) (divI g a) (divI s a) a))
  clear hS hJ3 hb3 t0 t1 t2 t3 tf
  go_wp2
  generalize (w3.setCell ⟨k + 1, 3, none⟩ (.int .u8 (lineI l 15 (divI r a) (divI g a) (divI s a) a))) = W4 at hS3 hJ ⊢
  have hS := hS3
  clear hS3
  obtain ⟨j0, j1, j2, j3, jf⟩ := id hJ
  rw [rounds_succ]
  go_wp2_with (go_at_call 20; with_reducible refine Calls.mono (thick_b _ _ _ _ _ (line_bd _ _ _ _ _ _) (line_bd _ _ _ _ _ _) (line_bd _ _ _ _ _ _) (line_bd _ _ _ _ _ _)) ?_; rintro e w4 ⟨rfl, hb4⟩; replace hS := s2_below hS hb4; have hB := s2_out hS; obtain ⟨y0, y1, y2, y3, hq⟩ := s2_has hS; obtain ⟨q0, q1, q2, q3, qf⟩ := id hq)
  have hR := hq.set (.int .u8 (mulI (lineI l 0 (divI r a) (divI g a) (divI s a) a) (lineI l 15 (divI r a) (divI g a) (divI s a) a))) (.int .u8 (mulI (lineI l 5 (divI r a) (divI g a) (divI s a) a) (lineI l 15 (divI r a) (divI g a) (divI s a) a))) (.int .u8 (mulI (lineI l 10 (divI r a) (divI g a) (divI s a) a) (lineI l 15 (divI r a) (divI g a) (divI s a) a))) (.int .u8 (lineI l 15 (divI r a) (divI g a) (divI s a) a))
  obtain ⟨r0, r1, r2, r3, rf⟩ := hR
  refine bodyPost_ret (v := .agg #[.int .u8 (colI l 0 r g s a), .int .u8 (colI l 5 r g s a), .int .u8 (colI l 10 r g s a), .int .u8 (plnI l 15 r g s a)]) (by simp [results, Try.results12, go_sem, r0, r1, r2, r3]; exact ⟨rfl, rfl, rfl, rfl⟩) rfl ⟨rfl, ?_⟩
  go_grown
end Go.Proofs.Ytageofpkfghllaa
