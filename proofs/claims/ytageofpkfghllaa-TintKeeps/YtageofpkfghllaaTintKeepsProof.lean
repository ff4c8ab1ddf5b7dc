/- For every matrix and every right pixel: when the matrix has made a pixel of it, its numbers are what they were; no condition. -/
import Derived.Test.YtageofpkfghllaaRows
import Derived.WalkKit
import Derived.ProofKit
import Derived.OpenShut
import Derived.Test.YtageofpkfghllaaOpenI
import Derived.Test.YtageofpkfghllaaOpenPx
import Derived.Test.YtageofpkfghllaaSets
namespace Go.Proofs.Ytageofpkfghllaa.tintKeeps
open Go.ChangeShapes Go.WideShapes Go.ChangeAt Go.RowKit Num
set_option linter.unusedVariables false
set_option linter.unusedSimpArgs false

attribute [local go_sem ↓] run_app
attribute [local go_sem] lenV_slice
set_option maxRecDepth 100000 in
set_option maxHeartbeats 2000000 in
theorem walk (ao : Option Addr) (n c b off : Nat) (l : List Int) (r g s a : Int) (w : World) (h : Vi w ao n c b off l) (hr : 0 ≤ r ∧ r ≤ 255) (hg : 0 ≤ g ∧ g ≤ 255) (hs : 0 ≤ s ∧ s ≤ 255) (ha : 0 ≤ a ∧ a ≤ 255) :
    Calls Try.prog 7 #[.slice ao n c, .agg #[.int .u8 r, .int .u8 g, .int .u8 s, .int .u8 a]] w fun e w' => e = .returned (.bool true) ∧ Below w.heap.size w w' := by
  have hn := vz_small h
  have hln := vi_len h
  have HV := hid h
  clear h
  have hS := s1_new w (.int .u8 r) (.int .u8 g) (.int .u8 s) (.int .u8 a) 24
  by_cases hN : 100 < n
  · have hNz : (100 : Int) < (n : Int) := by omega
    go_enter Try.func7, Try.ntmps7
    go_wp2_with ((go_at_call 8; with_reducible refine Calls.mono (awake_any _) ?_; rintro e wc ⟨rfl, hb⟩; replace hS := s1_below hS hb; clear hb; obtain ⟨⟨p0, p1, p2, p3⟩, hB⟩ := id hS))
    go_ret
    exact ⟨rfl, s1_out hS⟩
  have hNz : ¬ ((100 : Int) < (n : Int)) := by omega
  rcases hM : rightM l with _ | _
  · have HM := hid hM
    clear hM
    go_enter Try.func7, Try.ntmps7
    go_wp2_with (first | (go_at_call 8; with_reducible refine Calls.mono (awake_any _) ?_; rintro e wc ⟨rfl, hb⟩; replace hS := s1_below hS hb; clear hb; obtain ⟨⟨p0, p1, p2, p3⟩, hB⟩ := id hS) | (go_at_call 10; with_reducible refine Calls.mono (refMRight_any _ _ _ b off l _ (HV.out.below (s1_out hS))) ?_; rintro e wc ⟨rfl, hb⟩; rw [HM.out]; replace hS := s1_below hS hb; clear hb; obtain ⟨⟨p0, p1, p2, p3⟩, hB⟩ := id hS))
    go_ret
    exact ⟨rfl, s1_out hS⟩
  rcases hR : rightB r g s a with _ | _
  · have HM := hid hM
    have HR := hid hR
    clear hM hR
    go_enter Try.func7, Try.ntmps7
    go_wp2_with (first | (go_at_call 8; with_reducible refine Calls.mono (awake_any _) ?_; rintro e wc ⟨rfl, hb⟩; replace hS := s1_below hS hb; clear hb; obtain ⟨⟨p0, p1, p2, p3⟩, hB⟩ := id hS) | (go_at_call 10; with_reducible refine Calls.mono (refMRight_any _ _ _ b off l _ (HV.out.below (s1_out hS))) ?_; rintro e wc ⟨rfl, hb⟩; rw [HM.out]; replace hS := s1_below hS hb; clear hb; obtain ⟨⟨p0, p1, p2, p3⟩, hB⟩ := id hS) | (go_at_call 11; with_reducible refine Calls.mono (refRight_b _ _ _ _ _ ‹_› ‹_› ‹_› ‹_›) ?_; rintro e wc ⟨rfl, hb⟩; rw [HR.out]; replace hS := s1_below hS hb; clear hb; obtain ⟨⟨p0, p1, p2, p3⟩, hB⟩ := id hS))
    go_ret
    exact ⟨rfl, s1_out hS⟩
  obtain rfl : n = 20 := by rw [← hln]; exact right_len hM
  obtain rfl := HV.out.addr (by have := HV.out.le; omega)
  have HM := hid hM
  have HR := hid hR
  clear hM hR hNz hN hln
  go_enter Try.func7, Try.ntmps7
  go_wp2_with (first | (go_at_call 10; with_reducible refine Calls.mono (refMRight_any _ _ _ b off l _ (HV.out.below (s1_out hS))) ?_; rintro e wc ⟨rfl, hb⟩; rw [HM.out]; replace hS := s1_below hS hb; clear hb; obtain ⟨⟨p0, p1, p2, p3⟩, hB⟩ := id hS) | (go_at_call 12; with_reducible refine Calls.mono (pixel_any _ _ _ b off l _ _ _ _ _ (HV.out.below (s1_out hS)) HM.out ‹_› ‹_› ‹_› ‹_›) ?_; rintro e wd ⟨rfl, hb⟩; replace HO := hid (HO.out.below hb); replace hS := s1_below hS hb; clear hb; obtain ⟨⟨p0, p1, p2, p3⟩, hB⟩ := id hS) | (go_at_call 11; with_reducible refine Calls.mono (refRight_b _ _ _ _ _ ‹_› ‹_› ‹_› ‹_›) ?_; rintro e wc ⟨rfl, hb⟩; rw [HR.out]; replace hS := s1_below hS hb; clear hb; obtain ⟨⟨p0, p1, p2, p3⟩, hB⟩ := id hS; have hB0 := hB; obtain ⟨b', off', hA⟩ := app_copy (HV.out.below (s1_out hS)) (by omega); have HA := hid hA; have hF : Fine Try.prog #[22, 22] 22 (wc.alloc (.cells #[] 3)) (.slice (some ⟨wc.heap.size, 0, none⟩) 0 0) (.slice (some ⟨b, off, none⟩) 20 c) 20 := hA.fine; have hO := oi_copy hA; have HO := hid hO; replace hS := s1_below hS (app_low hA); clear hA hO p0 p1 p2 p3 hB; obtain ⟨⟨p0, p1, p2, p3⟩, hB⟩ := id hS))
  have hO := HO.out
  clear HO HA hF hB0
  generalize (apA Try.prog #[22, 22] 22 (wc.alloc (.cells #[] 3)) (.slice (some ⟨wc.heap.size, 0, none⟩) 0 0) (.slice (some ⟨b, off, none⟩) 20 c)) = wo at hO ⊢
  generalize (apC Try.prog #[22, 22] 22 (wc.alloc (.cells #[] 3)) (.slice (some ⟨wc.heap.size, 0, none⟩) 0 0) (.slice (some ⟨b, off, none⟩) 20 c)) = wk at hO ⊢
  obtain rfl := hO.v.addr (by have := hO.v.le; omega)
  have hwk := hO.v.le
  have HO := hid hO.v
  have HS := hid hS
  have hle : 20 ≤ c := HV.out.le
  clear hO hS p0 p1 p2 p3 hB
  go_loopg [6] 20 (fun g i wr => ∃ k : Nat, k ≤ 20 ∧ g = 20 - k ∧ i = .int .i64 k ∧ Below wd.heap.size wd wr)
  case atStart => exact ⟨0, Nat.zero_le _, rfl, rfl, Below.refl _ _⟩
  case round =>
    obtain ⟨k, hk, rfl, rfl, hB⟩ := hrel
    have HB := hid hB
    by_cases hlt : k < 20
    · have hlz : (k : Int) < 20 := by omega
      have c0 := vi_nth (HV.out.below (via (w := w) (s1_out HS.out) hB)) (i := k) hlt
      have c1 := vi_nth (HO.out.below hB) (i := k) hlt
      clear hB
      go_wp2
      go_quiet (fail)
      go_wp2
      go_roundg (20 - (k + 1))
      case measure => omega
      case rel => exact ⟨k + 1, hlt, rfl, by simp, below_drewN HB.out _⟩
    · obtain rfl : k = 20 := by omega
      go_wp2_with (go_at_call 8; with_reducible refine Calls.mono (awake_any _) ?_; rintro e we ⟨rfl, hb⟩)
      go_ret
      exact ⟨rfl, via (w := w) (via (w := w) (s1_out HS.out) HB.out) hb⟩

theorem own : ownKnob Try.prog.godebug = none := by kernel_rfl

set_option maxHeartbeats 400000 in
set_option maxRecDepth 100000 in
theorem lifted (os : Os) (started : os.Started) (H : Type) (enc : TypeId × Value → H) :
    ReturnsInHanded {} Try.checked os 7 .any (Rows.tintKeepsSpec.pre6 enc Try.prog Try.f7 Rows.tintKeepsRow.domain false) (Rows.tintKeepsSpec.post enc Try.prog Try.f7 false true false false) := by
  refine returnsInHanded_of_change (C := Try.checked) own started (by kernel_rfl) Try.func7
    (ChangeSpec.witness6 (enc := enc) (C := Try.checked) false ⟨#[], #[.slice none 0 0, .agg #[.int .u8 0, .int .u8 0, .int .u8 0, .int .u8 0]], []⟩ 8 (by kernel_rfl) (by kernel_rfl) (by kernel_rfl) (by kernel_rfl)) ?_
  intro W base args ds gs before hval0 hW hcnd _
  have hval : ∀ (j : Nat) t v, Try.f7.params[j]? = some t → args[j]? = some v → Value.okWide Try.prog W .any base t v := hval0
  have hW' := hW
  obtain ⟨p, q, hA0, hV, rfl, hfz, hnd⟩ := hW
  have hA : DataW.TrodAll enc Try.prog W 0 (fun _ => true) true Try.f7.params.toList args.toList ds p := hA0
  rw [Try.params7] at hA hval
  obtain ⟨v0, vs0, d0, ds0, p0, q0, hargs, rfl, rfl, h0, r0⟩ := trodAll_cons hA
  obtain ⟨v1, vs1, d1, ds1, p1, q1, rfl, rfl, rfl, h1, r1⟩ := trodAll_cons r0
  obtain ⟨rfl, rfl, rfl⟩ := trodAll_nil r1
  obtain rfl : args = #[v0, v1] := by cases args; simp_all
  obtain ⟨rfl, rfl⟩ := trodVars_none hV
  obtain ⟨ao0, n0, c0, b0, off0, l0, rfl, hv0⟩ := open_ints (hval 0 22 v0 rfl rfl) h0
  obtain ⟨x10, x11, x12, x13, rfl, -, -, u10, u11, u12, u13⟩ := open_px Try.underlying24 Try.underlying5 cells24 cells5 (hval 1 24 v1 rfl rfl) h1
  clear hA0 hval0
  simp only [List.append_nil] at hW'
  have hlt : ∀ x ∈ p0 ++ (p1), x.block < W.heap.size := fun x hx => by simpa using hW'.lt x (by simpa using hx)
  refine (walk ao0 n0 c0 b0 off0 l0 x10 x11 x12 x13 W hv0 (bounds_u8 u10) (bounds_u8 u11) (bounds_u8 u12) (bounds_u8 u13)).mono fun e W' ⟨he, hg⟩ => ?_
  subst he
  have t0 := Below.trod laidOut (by kernel_rfl) (of_decide_eq_true (by kernel_rfl)) h0 hg (fun x hx => hlt x (List.mem_append_left _ hx))
  have t1 := Below.trod laidOut (by kernel_rfl) (of_decide_eq_true (by kernel_rfl)) h1 hg (fun x hx => hlt x (List.mem_append_right _ (hx)))
  exact ⟨_, rfl, ⟨_, _, _, _, _, _, hW', (trodAll_cons_mk (shut_bool Try.underlying4 _) trodAll_mk0), (trodAll_cons_mk t0 (trodAll_cons_mk t1 trodAll_mk0)), rfl, hg.frame _, fun h => by cases h⟩⟩

theorem over : Rows.tintKeepsRow.holds Try.pinned (OpenSpec.ofChange Rows.tintKeepsSpec) :=
  OpenClaim.holds_of_wide 7 Try.f7 rfl rfl rfl rfl rfl rfl rfl ⟨rfl, rfl, rfl, rfl, rfl⟩ rfl rfl rfl rfl rfl (by kernel_rfl) Try.func7 (by kernel_rfl)
    (of_decide_eq_true (by kernel_rfl)) (by unfold Func.isWrapper; first | (rw [if_pos (by decide +kernel)]; kernel_rfl) | (rw [if_neg (by decide +kernel)]; exact ⟨rfl, rfl⟩))
    (fun os started H enc _ => lifted os started H enc)

theorem proved : Rows.TintKeepsSaid := over
#print axioms proved
end Go.Proofs.Ytageofpkfghllaa.tintKeeps
