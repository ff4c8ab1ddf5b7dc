/- For every right pixel: the matrix of noughts makes nothing of it, and the matrix with 256 behind each row makes full white of it, and of nothing; no condition. -/
import Derived.Test.YtageofpkfghllaaRows
import Derived.WalkKit
import Derived.ProofKit
import Derived.OpenShut
import Derived.Test.YtageofpkfghllaaOpenI
import Derived.Test.YtageofpkfghllaaOpenPx
import Derived.Test.YtageofpkfghllaaSets
namespace Go.Proofs.Ytageofpkfghllaa.tintNone
open Go.ChangeShapes Go.WideShapes Go.ChangeAt Go.RowKit Num
set_option linter.unusedVariables false
set_option linter.unusedSimpArgs false

attribute [local go_sem] eq4_same
attribute [local go_sem ↓] Go.wp_at_zero Go.wp_at_succ
theorem zero_line {j : Nat} (hj : j ≤ 15) (r g s a : Int) : plnI zeroL j r g s a = 0 := by
  have e : ∀ i, nth zeroL i = 0 := fun i => by
    unfold nth zeroL
    rw [List.getD_eq_getElem?_getD, List.getElem?_replicate]
    split <;> rfl
  unfold plnI lineI rowI sumI
  simp only [e, Int.zero_mul, Int.add_zero, Int.zero_add]
  decide
theorem zero_pixel (r g s a : Int) : colI zeroL 0 r g s a = 0 ∧ colI zeroL 5 r g s a = 0 ∧ colI zeroL 10 r g s a = 0 ∧ plnI zeroL 15 r g s a = 0 := by
  unfold colI
  rw [zero_line (by omega), zero_line (by omega), zero_line (by omega), zero_line (by omega)]
  decide
theorem white_line {j : Nat} (hj : j = 0 ∨ j = 5 ∨ j = 10 ∨ j = 15) (r g s a : Int) : plnI whiteL j r g s a = 255 := by
  rcases hj with rfl | rfl | rfl | rfl
  all_goals
    show cutI ((256 * 255 + 128 + 0 * divI r a + 0 * divI g a + 0 * divI s a + 0 * a) / 256) = 255
    simp only [Int.zero_mul, Int.add_zero]
    decide
theorem white_pixel (r g s a : Int) : colI whiteL 0 r g s a = 255 ∧ colI whiteL 5 r g s a = 255 ∧ colI whiteL 10 r g s a = 255 ∧ plnI whiteL 15 r g s a = 255 := by
  unfold colI
  rw [white_line (by omega), white_line (by omega), white_line (by omega), white_line (by omega)]
  decide

set_option maxRecDepth 100000 in
set_option maxHeartbeats 2000000 in
theorem walk (r g s a : Int) (w : World) (hr : 0 ≤ r ∧ r ≤ 255) (hg : 0 ≤ g ∧ g ≤ 255) (hs : 0 ≤ s ∧ s ≤ 255) (ha : 0 ≤ a ∧ a ≤ 255) :
    Calls Try.prog 6 #[.agg #[.int .u8 r, .int .u8 g, .int .u8 s, .int .u8 a]] w fun e w' => e = .returned (.bool true) ∧ Below w.heap.size w w' := by
  have hE := eqG
  have hMk := run_zero
  have z : (0 : Int) ≤ 0 ∧ (0 : Int) ≤ 255 := by decide
  have hS := s1_new w (.int .u8 r) (.int .u8 g) (.int .u8 s) (.int .u8 a) 24
  obtain ⟨⟨p0, p1, p2, p3⟩, hB⟩ := id hS
  rcases hR : rightB r g s a with _ | _
  · have HR := hid hR
    clear hR
    go_enter Try.func6, Try.ntmps6
    go_wp2_with (first | (go_at_call 8; with_reducible refine Calls.mono (awake_any _) ?_; rintro e wc ⟨rfl, hb⟩; replace hS := s1_below hS hb; clear hb; obtain ⟨⟨p0, p1, p2, p3⟩, hB⟩ := id hS) | (go_at_call 11; with_reducible refine Calls.mono (refRight_b _ _ _ _ _ ‹_› ‹_› ‹_› ‹_›) ?_; rintro e wc ⟨rfl, hb⟩; rw [HR.out]; replace hS := s1_below hS hb; clear hb; obtain ⟨⟨p0, p1, p2, p3⟩, hB⟩ := id hS))
    go_ret
    exact ⟨rfl, s1_out hS⟩
  have HR := hid hR
  clear hR
  go_enter Try.func6, Try.ntmps6
  go_wp2_with (first | (go_at_call 11; with_reducible refine Calls.mono (refRight_b _ _ _ _ _ ‹_› ‹_› ‹_› ‹_›) ?_; rintro e wc ⟨rfl, hb⟩; rw [HR.out]; replace hS := s1_below hS hb; clear hb; obtain ⟨⟨p0, p1, p2, p3⟩, hB⟩ := id hS))
  have hOz := (oi_zero (lo := wc.heap.size) (w := wc) (Nat.le_refl _)).below ((Below.refl _ _).alloc (Nat.le_refl _) (.cells zeroC 3))
  have hO := oi_zero (lo := wc.heap.size + 1) (w := wc.alloc (.cells zeroC 3)) (by simp)
  have hkw := hB.size
  replace hS := s1_below (s1_below hS ((Below.refl _ _).alloc (Nat.le_refl _) (.cells zeroC 3))) ((Below.refl _ _).alloc (Nat.le_refl _) (.cells zeroC 3))
  rw [World.size_alloc] at hO
  have hkp : w.heap.size < wc.heap.size := World.block_lt_of_cell? wc ⟨w.heap.size, 0, none⟩ p0
  obtain ⟨k, hk⟩ : ∃ k, k = wc.heap.size := ⟨_, rfl⟩
  rw [← hk] at hOz hO hkw hkp ⊢
  refine wp_loop_rounds 5 ?_
  generalize ((wc.alloc (.cells zeroC 3)).alloc (.cells zeroC 3)) = W0 at hOz hO hS ⊢
  clear hk p0 p1 p2 p3 hB
  have s0 : W0.cell? ⟨k + 1, 4, none⟩ = some (.int .i64 0) := (oi_at hO (i := 4) (by omega)).1
  have s1 : W0.frozen? ⟨k + 1, 4, none⟩ = false := (oi_at hO (i := 4) (by omega)).2
  rw [rounds_succ]
  go_wp2
  replace hO : Oi (k + 1) (W0.setCell ⟨k + 1, 4, none⟩ (.int .i64 256)) (some ⟨k + 1, 0, none⟩) 20 20 (k + 1) 0 (zeroL.set 4 256) := by
    have := oi_set hO (i := 4) (by omega) 256
    rwa [Nat.zero_add] at this
  have hOv := vi_far hOz.v (k := k + 1) (by omega) 4 (.int .i64 256)
  replace hOz : Oi k (W0.setCell ⟨k + 1, 4, none⟩ (.int .i64 256)) (some ⟨k, 0, none⟩) 20 20 k 0 zeroL := oi_far hOz (k := k + 1) (by omega) 4 (.int .i64 256)
  replace hS := s1_set hS (k := k + 1) (by omega) (by omega) 4 (.int .i64 256)
  clear s0 s1 hOv
  generalize (W0.setCell ⟨k + 1, 4, none⟩ (.int .i64 256)) = W1 at hO hOz hS ⊢
  have s0 : W1.cell? ⟨k + 1, 9, none⟩ = some (.int .i64 0) := (oi_at hO (i := 9) (by omega)).1
  have s1 : W1.frozen? ⟨k + 1, 9, none⟩ = false := (oi_at hO (i := 9) (by omega)).2
  rw [rounds_succ]
  go_wp2
  replace hO : Oi (k + 1) (W1.setCell ⟨k + 1, 9, none⟩ (.int .i64 256)) (some ⟨k + 1, 0, none⟩) 20 20 (k + 1) 0 ((zeroL.set 4 256).set 9 256) := by
    have := oi_set hO (i := 9) (by omega) 256
    rwa [Nat.zero_add] at this
  have hOv := vi_far hOz.v (k := k + 1) (by omega) 9 (.int .i64 256)
  replace hOz : Oi k (W1.setCell ⟨k + 1, 9, none⟩ (.int .i64 256)) (some ⟨k, 0, none⟩) 20 20 k 0 zeroL := oi_far hOz (k := k + 1) (by omega) 9 (.int .i64 256)
  replace hS := s1_set hS (k := k + 1) (by omega) (by omega) 9 (.int .i64 256)
  clear s0 s1 hOv
  generalize (W1.setCell ⟨k + 1, 9, none⟩ (.int .i64 256)) = W2 at hO hOz hS ⊢
  have s0 : W2.cell? ⟨k + 1, 14, none⟩ = some (.int .i64 0) := (oi_at hO (i := 14) (by omega)).1
  have s1 : W2.frozen? ⟨k + 1, 14, none⟩ = false := (oi_at hO (i := 14) (by omega)).2
  rw [rounds_succ]
  go_wp2
  replace hO : Oi (k + 1) (W2.setCell ⟨k + 1, 14, none⟩ (.int .i64 256)) (some ⟨k + 1, 0, none⟩) 20 20 (k + 1) 0 (((zeroL.set 4 256).set 9 256).set 14 256) := by
    have := oi_set hO (i := 14) (by omega) 256
    rwa [Nat.zero_add] at this
  have hOv := vi_far hOz.v (k := k + 1) (by omega) 14 (.int .i64 256)
  replace hOz : Oi k (W2.setCell ⟨k + 1, 14, none⟩ (.int .i64 256)) (some ⟨k, 0, none⟩) 20 20 k 0 zeroL := oi_far hOz (k := k + 1) (by omega) 14 (.int .i64 256)
  replace hS := s1_set hS (k := k + 1) (by omega) (by omega) 14 (.int .i64 256)
  clear s0 s1 hOv
  generalize (W2.setCell ⟨k + 1, 14, none⟩ (.int .i64 256)) = W3 at hO hOz hS ⊢
  have s0 : W3.cell? ⟨k + 1, 19, none⟩ = some (.int .i64 0) := (oi_at hO (i := 19) (by omega)).1
  have s1 : W3.frozen? ⟨k + 1, 19, none⟩ = false := (oi_at hO (i := 19) (by omega)).2
  rw [rounds_succ]
  go_wp2
  replace hO : Oi (k + 1) (W3.setCell ⟨k + 1, 19, none⟩ (.int .i64 256)) (some ⟨k + 1, 0, none⟩) 20 20 (k + 1) 0 ((((zeroL.set 4 256).set 9 256).set 14 256).set 19 256) := by
    have := oi_set hO (i := 19) (by omega) 256
    rwa [Nat.zero_add] at this
  have hOv := vi_far hOz.v (k := k + 1) (by omega) 19 (.int .i64 256)
  replace hOz : Oi k (W3.setCell ⟨k + 1, 19, none⟩ (.int .i64 256)) (some ⟨k, 0, none⟩) 20 20 k 0 zeroL := oi_far hOz (k := k + 1) (by omega) 19 (.int .i64 256)
  replace hS := s1_set hS (k := k + 1) (by omega) (by omega) 19 (.int .i64 256)
  clear s0 s1 hOv
  generalize (W3.setCell ⟨k + 1, 19, none⟩ (.int .i64 256)) = W4 at hO hOz hS ⊢
  rw [white_is] at hO
  obtain ⟨p0, p1, p2, p3⟩ := hS.1
  have HZ := hid hOz.v
  have HW := hid hO.v
  have hB := Below.refl W4.heap.size W4
  clear hO hOz
  obtain ⟨n0, n1, n2, n3⟩ := zero_pixel r g s a
  obtain ⟨m0, m1, m2, m3⟩ := white_pixel r g s a
  obtain ⟨o0, o1, o2, o3⟩ := white_pixel 0 0 0 0
  have q0 : eq4 255 255 255 255 0 0 0 0 = false := by decide
  rw [rounds_succ]
  go_wp2_with (first
    | (go_at_call 8; with_reducible refine Calls.mono (awake_any _) ?_; rintro e wd ⟨rfl, hb⟩; replace hS := s1_below hS hb; replace hB := via (w := W4) hB hb; clear hb; obtain ⟨⟨p0, p1, p2, p3⟩, hX⟩ := id hS)
    | (go_at_call 12; with_reducible refine Calls.mono (pixel_any (some ⟨k, 0, none⟩) _ _ k 0 zeroL _ _ _ _ _ (HZ.out.below hB) zero_right ‹_› ‹_› ‹_› ‹_›) ?_; rintro e wd ⟨rfl, hb⟩; replace hS := s1_below hS hb; replace hB := via (w := W4) hB hb; clear hb; obtain ⟨⟨p0, p1, p2, p3⟩, hX⟩ := id hS)
    | (go_at_call 12; with_reducible refine Calls.mono (pixel_any (some ⟨k + 1, 0, none⟩) _ _ (k + 1) 0 whiteL _ _ _ _ _ (HW.out.below hB) white_right ‹_› ‹_› ‹_› ‹_›) ?_; rintro e wd ⟨rfl, hb⟩; replace hS := s1_below hS hb; replace hB := via (w := W4) hB hb; clear hb; obtain ⟨⟨p0, p1, p2, p3⟩, hX⟩ := id hS)
    | (go_at_call 14; with_reducible refine Calls.mono (calm_b _ _ _ (k + 1) 0 whiteL _ (HW.out.below hB) white_right) ?_; rintro e wd ⟨rfl, hb⟩; replace hS := s1_below hS hb; replace hB := via (w := W4) hB hb; clear hb; obtain ⟨⟨p0, p1, p2, p3⟩, hX⟩ := id hS))
  go_ret
  exact ⟨rfl, s1_out hS⟩

theorem own : ownKnob Try.prog.godebug = none := by kernel_rfl

set_option maxHeartbeats 400000 in
set_option maxRecDepth 100000 in
theorem lifted (os : Os) (started : os.Started) (H : Type) (enc : TypeId × Value → H) :
    ReturnsInHanded {} Try.checked os 6 .any (Rows.tintNoneSpec.pre6 enc Try.prog Try.f6 Rows.tintNoneRow.domain false) (Rows.tintNoneSpec.post enc Try.prog Try.f6 false true false false) := by
  refine returnsInHanded_of_change (C := Try.checked) own started (by kernel_rfl) Try.func6
    (ChangeSpec.witness6 (enc := enc) (C := Try.checked) false ⟨#[], #[.agg #[.int .u8 0, .int .u8 0, .int .u8 0, .int .u8 0]], []⟩ 8 (by kernel_rfl) (by kernel_rfl) (by kernel_rfl) (by kernel_rfl)) ?_
  intro W base args ds gs before hval0 hW hcnd _
  have hval : ∀ (j : Nat) t v, Try.f6.params[j]? = some t → args[j]? = some v → Value.okWide Try.prog W .any base t v := hval0
  have hW' := hW
  obtain ⟨p, q, hA0, hV, rfl, hfz, hnd⟩ := hW
  have hA : DataW.TrodAll enc Try.prog W 0 (fun _ => true) true Try.f6.params.toList args.toList ds p := hA0
  rw [Try.params6] at hA hval
  obtain ⟨v0, vs0, d0, ds0, p0, q0, hargs, rfl, rfl, h0, r0⟩ := trodAll_cons hA
  obtain ⟨rfl, rfl, rfl⟩ := trodAll_nil r0
  obtain rfl : args = #[v0] := by cases args; simp_all
  obtain ⟨rfl, rfl⟩ := trodVars_none hV
  obtain ⟨x00, x01, x02, x03, rfl, -, -, u00, u01, u02, u03⟩ := open_px Try.underlying24 Try.underlying5 cells24 cells5 (hval 0 24 v0 rfl rfl) h0
  clear hA0 hval0
  simp only [List.append_nil] at hW'
  have hlt : ∀ x ∈ p0, x.block < W.heap.size := fun x hx => by simpa using hW'.lt x (by simpa using hx)
  refine (walk x00 x01 x02 x03 W (bounds_u8 u00) (bounds_u8 u01) (bounds_u8 u02) (bounds_u8 u03)).mono fun e W' ⟨he, hg⟩ => ?_
  subst he
  have t0 := Below.trod laidOut (by kernel_rfl) (of_decide_eq_true (by kernel_rfl)) h0 hg (fun x hx => hlt x (hx))
  exact ⟨_, rfl, ⟨_, _, _, _, _, _, hW', (trodAll_cons_mk (shut_bool Try.underlying4 _) trodAll_mk0), (trodAll_cons_mk t0 trodAll_mk0), rfl, hg.frame _, fun h => by cases h⟩⟩

theorem over : Rows.tintNoneRow.holds Try.pinned (OpenSpec.ofChange Rows.tintNoneSpec) :=
  OpenClaim.holds_of_wide 6 Try.f6 rfl rfl rfl rfl rfl rfl rfl ⟨rfl, rfl, rfl, rfl, rfl⟩ rfl rfl rfl rfl rfl (by kernel_rfl) Try.func6 (by kernel_rfl)
    (of_decide_eq_true (by kernel_rfl)) (by unfold Func.isWrapper; first | (rw [if_pos (by decide +kernel)]; kernel_rfl) | (rw [if_neg (by decide +kernel)]; exact ⟨rfl, rfl⟩))
    (fun os started H enc _ => lifted os started H enc)

theorem proved : Rows.TintNoneSaid := over
#print axioms proved
end Go.Proofs.Ytageofpkfghllaa.tintNone
