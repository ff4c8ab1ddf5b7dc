/- For every matrix and every right pixel: what the matrix makes of it is right, and the matrix that leaves colours as they are leaves it as it is; no condition. -/
import Derived.Test.YtageofpkfghllaaRows
import Derived.WalkKit
import Derived.ProofKit
import Derived.OpenShut
import Derived.Test.YtageofpkfghllaaOpenI
import Derived.Test.YtageofpkfghllaaOpenPx
import Derived.Test.YtageofpkfghllaaLawKit
namespace Go.Proofs.Ytageofpkfghllaa.tintRight
open Go.ChangeShapes Go.WideShapes Go.ChangeAt Go.RowKit Num
set_option linter.unusedVariables false
set_option linter.unusedSimpArgs false

attribute [local go_sem] eq4_same
theorem right_le {r g s a : Int} (h : rightB r g s a = true) : r ≤ a ∧ g ≤ a ∧ s ≤ a := by
  simp only [rightB, Bool.and_eq_true, decide_eq_true_eq] at h; omega
/-- the matrix that changes nothing -/
theorem cut_own {x : Int} (h : 0 ≤ x ∧ x ≤ 255) : cutI ((256 * x + 128) / 256) = x := by
  rw [show (256 * x + 128) / 256 = x by omega]; unfold cutI; split <;> (try split) <;> omega
theorem same_0 {r g s a : Int} (hr : 0 ≤ r ∧ r ≤ 255) (ha : 0 ≤ a ∧ a ≤ 255) : plnI sameL 0 r g s a = divI r a := by
  have e : plnI sameL 0 r g s a = cutI ((256 * divI r a + 128) / 256) := by
    show cutI ((0 * 255 + 128 + 256 * divI r a + 0 * divI g a + 0 * divI s a + 0 * a) / 256) = _
    congr 2; omega
  rw [e]; exact cut_own (div_bd hr.1 ha.1)
theorem same_5 {r g s a : Int} (hg : 0 ≤ g ∧ g ≤ 255) (ha : 0 ≤ a ∧ a ≤ 255) : plnI sameL 5 r g s a = divI g a := by
  have e : plnI sameL 5 r g s a = cutI ((256 * divI g a + 128) / 256) := by
    show cutI ((0 * 255 + 128 + 0 * divI r a + 256 * divI g a + 0 * divI s a + 0 * a) / 256) = _
    congr 2; omega
  rw [e]; exact cut_own (div_bd hg.1 ha.1)
theorem same_10 {r g s a : Int} (hs : 0 ≤ s ∧ s ≤ 255) (ha : 0 ≤ a ∧ a ≤ 255) : plnI sameL 10 r g s a = divI s a := by
  have e : plnI sameL 10 r g s a = cutI ((256 * divI s a + 128) / 256) := by
    show cutI ((0 * 255 + 128 + 0 * divI r a + 0 * divI g a + 256 * divI s a + 0 * a) / 256) = _
    congr 2; omega
  rw [e]; exact cut_own (div_bd hs.1 ha.1)
theorem same_15 {r g s a : Int} (ha : 0 ≤ a ∧ a ≤ 255) : plnI sameL 15 r g s a = a := by
  have e : plnI sameL 15 r g s a = cutI ((256 * a + 128) / 256) := by
    show cutI ((0 * 255 + 128 + 0 * divI r a + 0 * divI g a + 0 * divI s a + 256 * a) / 256) = _
    congr 2; omega
  rw [e]; exact cut_own ha
theorem keeps {r g s a : Int} (hr : 0 ≤ r ∧ r ≤ 255) (hg : 0 ≤ g ∧ g ≤ 255) (hs : 0 ≤ s ∧ s ≤ 255) (ha : 0 ≤ a ∧ a ≤ 255) (h : rightB r g s a = true) :
    colI sameL 0 r g s a = r ∧ colI sameL 5 r g s a = g ∧ colI sameL 10 r g s a = s ∧ plnI sameL 15 r g s a = a := by
  obtain ⟨h1, h2, h3⟩ := right_le h
  refine ⟨?_, ?_, ?_, same_15 ha⟩
  · unfold colI; rw [same_0 hr ha, same_15 ha]; exact back hr.1 h1 ha.2
  · unfold colI; rw [same_5 hg ha, same_15 ha]; exact back hg.1 h2 ha.2
  · unfold colI; rw [same_10 hs ha, same_15 ha]; exact back hs.1 h3 ha.2

set_option maxRecDepth 100000 in
set_option maxHeartbeats 2000000 in
theorem walk (ao : Option Addr) (n c b off : Nat) (l : List Int) (r g s a : Int) (w : World) (h : Vi w ao n c b off l) (hr : 0 ≤ r ∧ r ≤ 255) (hg : 0 ≤ g ∧ g ≤ 255) (hs : 0 ≤ s ∧ s ≤ 255) (ha : 0 ≤ a ∧ a ≤ 255) :
    Calls Try.prog 4 #[.slice ao n c, .agg #[.int .u8 r, .int .u8 g, .int .u8 s, .int .u8 a]] w fun e w' => e = .returned (.bool true) ∧ Below w.heap.size w w' := by
  have hE := eqG
  have hn := vz_small h
  have HV := hid h
  clear h
  have hS := s1_new w (.int .u8 r) (.int .u8 g) (.int .u8 s) (.int .u8 a) 24
  by_cases hN : 100 < n
  · have hNz : (100 : Int) < (n : Int) := by omega
    go_enter Try.func4, Try.ntmps4
    go_wp2_with ((go_at_call 8; with_reducible refine Calls.mono (awake_any _) ?_; rintro e wc ⟨rfl, hb⟩; replace hS := s1_below hS hb; clear hb; obtain ⟨⟨p0, p1, p2, p3⟩, hB⟩ := id hS))
    go_ret
    exact ⟨rfl, s1_out hS⟩
  have hNz : ¬ ((100 : Int) < (n : Int)) := by omega
  rcases hM : rightM l with _ | _
  · have HM := hid hM
    clear hM
    go_enter Try.func4, Try.ntmps4
    go_wp2_with (first | (go_at_call 8; with_reducible refine Calls.mono (awake_any _) ?_; rintro e wc ⟨rfl, hb⟩; replace hS := s1_below hS hb; clear hb; obtain ⟨⟨p0, p1, p2, p3⟩, hB⟩ := id hS) | (go_at_call 10; with_reducible refine Calls.mono (refMRight_any _ _ _ b off l _ (HV.out.below (s1_out hS))) ?_; rintro e wc ⟨rfl, hb⟩; rw [HM.out]; replace hS := s1_below hS hb; clear hb; obtain ⟨⟨p0, p1, p2, p3⟩, hB⟩ := id hS))
    go_ret
    exact ⟨rfl, s1_out hS⟩
  rcases hR : rightB r g s a with _ | _
  · have HM := hid hM
    have HR := hid hR
    clear hM hR
    go_enter Try.func4, Try.ntmps4
    go_wp2_with (first | (go_at_call 8; with_reducible refine Calls.mono (awake_any _) ?_; rintro e wc ⟨rfl, hb⟩; replace hS := s1_below hS hb; clear hb; obtain ⟨⟨p0, p1, p2, p3⟩, hB⟩ := id hS) | (go_at_call 10; with_reducible refine Calls.mono (refMRight_any _ _ _ b off l _ (HV.out.below (s1_out hS))) ?_; rintro e wc ⟨rfl, hb⟩; rw [HM.out]; replace hS := s1_below hS hb; clear hb; obtain ⟨⟨p0, p1, p2, p3⟩, hB⟩ := id hS) | (go_at_call 11; with_reducible refine Calls.mono (refRight_b _ _ _ _ _ ‹_› ‹_› ‹_› ‹_›) ?_; rintro e wc ⟨rfl, hb⟩; rw [HR.out]; replace hS := s1_below hS hb; clear hb; obtain ⟨⟨p0, p1, p2, p3⟩, hB⟩ := id hS))
    go_ret
    exact ⟨rfl, s1_out hS⟩
  have hY : rightB (colI l 0 r g s a) (colI l 5 r g s a) (colI l 10 r g s a) (plnI l 15 r g s a) = true := right_yes (col_le _ _ _ _ _ _) (col_le _ _ _ _ _ _) (col_le _ _ _ _ _ _)
  obtain ⟨k0, k1, k2, k3⟩ := keeps hr hg hs ha hR
  have HM := hid hM
  have HR := hid hR
  clear hM hR
  go_enter Try.func4, Try.ntmps4
  go_wp2_with (first | (go_at_call 8; with_reducible refine Calls.mono (awake_any _) ?_; rintro e wc ⟨rfl, hb⟩; replace hS := s1_below hS hb; clear hb; obtain ⟨⟨p0, p1, p2, p3⟩, hB⟩ := id hS) | (go_at_call 10; with_reducible refine Calls.mono (refMRight_any _ _ _ b off l _ (HV.out.below (s1_out hS))) ?_; rintro e wc ⟨rfl, hb⟩; rw [HM.out]; replace hS := s1_below hS hb; clear hb; obtain ⟨⟨p0, p1, p2, p3⟩, hB⟩ := id hS) | (go_at_call 11; with_reducible refine Calls.mono (refRight_b _ _ _ _ _ ‹_› ‹_› ‹_› ‹_›) ?_; rintro e wc ⟨rfl, hb⟩; rw [HR.out]; replace hS := s1_below hS hb; clear hb; obtain ⟨⟨p0, p1, p2, p3⟩, hB⟩ := id hS))
  go_region_held3 (fun w' => (w'.cell? ⟨w.heap.size, 0, none⟩ = some (.int .u8 r) ∧ w'.cell? ⟨w.heap.size, 1, none⟩ = some (.int .u8 g) ∧ w'.cell? ⟨w.heap.size, 2, none⟩ = some (.int .u8 s) ∧ w'.cell? ⟨w.heap.size, 3, none⟩ = some (.int .u8 a)) ∧ Kept w w') (repeat (first | with_reducible assumption | with_reducible refine s1_drew ?_ | with_reducible refine s1_below ?_ ‹_›))
    ((first
      | (go_at_call 8; with_reducible refine Calls.mono (awake_any _) ?_; rintro e w1 ⟨rfl, hb⟩)
      | (go_at_call 12; with_reducible refine Calls.mono (pixel_any _ _ _ b off l _ _ _ _ _ (HV.out.below (s1_out (p := w.heap.size) (v0 := .int .u8 r) (v1 := .int .u8 g) (v2 := .int .u8 s) (v3 := .int .u8 a) (by with_reducible assumption))) HM.out ‹_› ‹_› ‹_› ‹_›) ?_; rintro e w2 ⟨rfl, hb⟩)
      | (go_at_call 15; with_reducible refine Calls.mono (right_b _ _ _ _ _ (col_bd _ _ _ _ _ _) (col_bd _ _ _ _ _ _) (col_bd _ _ _ _ _ _) (pln_bd _ _ _ _ _ _)) ?_; rintro e w3 ⟨rfl, hb⟩)
      | (go_at_call 16; with_reducible refine Calls.mono (same_any _) ?_; rintro e w4 ⟨hr4, hb⟩; obtain ⟨so, sn, sc, sb, soff, rfl, hO⟩ := retI hr4; have HO := hid hO; clear hr4 hO)
      | (go_at_call 12; with_reducible refine Calls.mono (pixel_any _ _ _ sb soff sameL _ _ _ _ _ HO.out.v same_right ‹_› ‹_› ‹_› ‹_›) ?_; rintro e w5 ⟨rfl, hb⟩)))
  go_wp2
  go_ret
  exact ⟨rfl, s1_out (p := w.heap.size) (v0 := .int .u8 r) (v1 := .int .u8 g) (v2 := .int .u8 s) (v3 := .int .u8 a) (by with_reducible assumption)⟩

theorem own : ownKnob Try.prog.godebug = none := by kernel_rfl

set_option maxHeartbeats 400000 in
set_option maxRecDepth 100000 in
theorem lifted (os : Os) (started : os.Started) (H : Type) (enc : TypeId × Value → H) :
    ReturnsInHanded {} Try.checked os 4 .any (Rows.tintRightSpec.pre6 enc Try.prog Try.f4 Rows.tintRightRow.domain false) (Rows.tintRightSpec.post enc Try.prog Try.f4 false true false false) := by
  refine returnsInHanded_of_change (C := Try.checked) own started (by kernel_rfl) Try.func4
    (ChangeSpec.witness6 (enc := enc) (C := Try.checked) false ⟨#[], #[.slice none 0 0, .agg #[.int .u8 0, .int .u8 0, .int .u8 0, .int .u8 0]], []⟩ 8 (by kernel_rfl) (by kernel_rfl) (by kernel_rfl) (by kernel_rfl)) ?_
  intro W base args ds gs before hval0 hW hcnd _
  have hval : ∀ (j : Nat) t v, Try.f4.params[j]? = some t → args[j]? = some v → Value.okWide Try.prog W .any base t v := hval0
  have hW' := hW
  obtain ⟨p, q, hA0, hV, rfl, hfz, hnd⟩ := hW
  have hA : DataW.TrodAll enc Try.prog W 0 (fun _ => true) true Try.f4.params.toList args.toList ds p := hA0
  rw [Try.params4] at hA hval
  obtain ⟨v0, vs0, d0, ds0, p0, q0, hargs, rfl, rfl, h0, r0⟩ := trodAll_cons hA
  obtain ⟨v1, vs1, d1, ds1, p1, q1, rfl, rfl, rfl, h1, r1⟩ := trodAll_cons r0
  obtain ⟨rfl, rfl, rfl⟩ := trodAll_nil r1
  obtain rfl : args = #[v0, v1] := by cases args; simp_all
  obtain ⟨rfl, rfl⟩ := trodVars_none hV
  obtain ⟨ao0, n0, c0, b0, off0, l0, rfl, hv0⟩ := open_ints (hval 0 22 v0 rfl rfl) h0
  obtain ⟨x10, x11, x12, x13, rfl, -, -, u10, u11, u12, u13⟩ := open_px Try.underlying24 Try.underlying5 cells24 cells5 (hval 1 24 v1 rfl rfl) h1
  clear hA0 hval0
  simp only [List.append_nil] at hW'
  have hlt : ∀ x ∈ p0 ++ (p1), x.block < W.heap.size := fun x hx => by simpa using hW'.lt x (by simpa using hx)
  refine (walk ao0 n0 c0 b0 off0 l0 x10 x11 x12 x13 W hv0 (bounds_u8 u10) (bounds_u8 u11) (bounds_u8 u12) (bounds_u8 u13)).mono fun e W' ⟨he, hg⟩ => ?_
  subst he
  have t0 := Below.trod laidOut (by kernel_rfl) (of_decide_eq_true (by kernel_rfl)) h0 hg (fun x hx => hlt x (List.mem_append_left _ hx))
  have t1 := Below.trod laidOut (by kernel_rfl) (of_decide_eq_true (by kernel_rfl)) h1 hg (fun x hx => hlt x (List.mem_append_right _ (hx)))
  exact ⟨_, rfl, ⟨_, _, _, _, _, _, hW', (trodAll_cons_mk (shut_bool Try.underlying4 _) trodAll_mk0), (trodAll_cons_mk t0 (trodAll_cons_mk t1 trodAll_mk0)), rfl, hg.frame _, fun h => by cases h⟩⟩

theorem over : Rows.tintRightRow.holds Try.pinned (OpenSpec.ofChange Rows.tintRightSpec) :=
  OpenClaim.holds_of_wide 4 Try.f4 rfl rfl rfl rfl rfl rfl rfl ⟨rfl, rfl, rfl, rfl, rfl⟩ rfl rfl rfl rfl rfl (by kernel_rfl) Try.func4 (by kernel_rfl)
    (of_decide_eq_true (by kernel_rfl)) (by unfold Func.isWrapper; first | (rw [if_pos (by decide +kernel)]; kernel_rfl) | (rw [if_neg (by decide +kernel)]; exact ⟨rfl, rfl⟩))
    (fun os started H enc _ => lifted os started H enc)

theorem proved : Rows.TintRightSaid := over
#print axioms proved
end Go.Proofs.Ytageofpkfghllaa.tintRight
