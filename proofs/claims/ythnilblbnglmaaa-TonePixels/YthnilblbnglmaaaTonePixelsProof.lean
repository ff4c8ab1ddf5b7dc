/- For every pixel and every tone, the program's Right, Scale, Plain and Thick are the document's; no condition. -/
import Derived.Test.YthnilblbnglmaaaRows
import Derived.WalkKit
import Derived.ProofKit
import Derived.OpenShut
import Derived.Test.YthnilblbnglmaaaAwake
import Derived.Test.YthnilblbnglmaaaOpen
namespace Go.Proofs.Ythnilblbnglmaaa.tonePixels
open Go.ChangeShapes Go.WideShapes Go.ChangeAt Go.RowKit Num
set_option linter.unusedVariables false
attribute [local go_sem ↓] Go.wp_at_zero Go.wp_at_succ
theorem Grown.drewN' {W w' : World} (h : Grown W w') (n : Nat) : Grown W (w'.drewN n) := h

set_option maxHeartbeats 1000000 in
theorem walk (r g b a k : Int) (w : World) (hr : 0 ≤ r ∧ r ≤ 255) (hg : 0 ≤ g ∧ g ≤ 255) (hb : 0 ≤ b ∧ b ≤ 255) (ha : 0 ≤ a ∧ a ≤ 255) (hk : 0 ≤ k ∧ k ≤ 255) :
    Calls Try.prog 4 #[.agg #[.int .u8 r, .int .u8 g, .int .u8 b, .int .u8 a], .int .u8 k] w fun e w' => e = .returned (.bool true) ∧ Grown w w' := by
  have hE := eqPx
  go_enter Try.func4, Try.ntmps4
  go_wp2
  go_region_held3 (fun w' => w'.cell? ⟨w.heap.size, 0, none⟩ = some (.int .u8 r) ∧ w'.cell? ⟨w.heap.size, 1, none⟩ = some (.int .u8 g) ∧ w'.cell? ⟨w.heap.size, 2, none⟩ = some (.int .u8 b) ∧ w'.cell? ⟨w.heap.size, 3, none⟩ = some (.int .u8 a)) (simp [go_sem, World.cell?_alloc_past]) ((first | (go_at_call 8; refine (awake_any _).mono ?_; rintro e w' ⟨rfl, c1, c2, c3, n, rfl⟩) | (go_at_call 15; refine (right_any _ _ _ _ _ ‹_› ‹_› ‹_› ‹_›).mono ?_; rintro e w' ⟨rfl, c, rfl⟩) | (go_at_call 16; refine (refRight_any _ _ _ _ _ ‹_› ‹_› ‹_› ‹_›).mono ?_; rintro e w' ⟨rfl, c, n, rfl⟩) | (go_at_call 17; refine (scale_any _ _ _ _ _ ‹_› ‹_› ‹_› ‹_› _ ‹_›).mono ?_; rintro e w' ⟨rfl, c1, c2, n, rfl⟩) | (go_at_call 18; refine (refScale_any _ _ _ _ _ ‹_› ‹_› ‹_› ‹_› _ ‹_›).mono ?_; rintro e w' ⟨rfl, c1, c2, n, rfl⟩) | (go_at_call 19; refine (plain_any _ _ _ _ _ ‹_› ‹_› ‹_› ‹_›).mono ?_; rintro e w' ⟨rfl, c1, c2, n, rfl⟩) | (go_at_call 20; refine (refPlain_any _ _ _ _ _ ‹_› ‹_› ‹_› ‹_›).mono ?_; rintro e w' ⟨rfl, c1, c2, n, rfl⟩) | (go_at_call 21; refine (thick_any _ _ _ _ _ ‹_› ‹_› ‹_› ‹_›).mono ?_; rintro e w' ⟨rfl, c1, c2, n, rfl⟩) | (go_at_call 22; refine (refThick_any _ _ _ _ _ ‹_› ‹_› ‹_› ‹_›).mono ?_; rintro e w' ⟨rfl, c1, c2, n, rfl⟩)))
  go_wp2
  go_ret
  exact ⟨rfl, by repeat (first | with_reducible exact Grown.refl _ | with_reducible apply Grown.drewN' | with_reducible apply Grown.drew | with_reducible apply Grown.alloc)⟩

theorem own : ownKnob Try.prog.godebug = none := by kernel_rfl
theorem cells5 : Try.prog.cellsOf 5 = 1 := by kernel_rfl
theorem cells27 : Try.prog.cellsOf 27 = 4 := by kernel_rfl

set_option maxHeartbeats 400000 in
set_option maxRecDepth 100000 in
theorem lifted (os : Os) (started : os.Started) (H : Type) (enc : TypeId × Value → H) :
    ReturnsInHanded {} Try.checked os 4 .any (Rows.tonePixelsSpec.pre6 enc Try.prog Try.f4 Rows.tonePixelsRow.domain false) (Rows.tonePixelsSpec.post enc Try.prog Try.f4 false true false false) := by
  refine returnsInHanded_of_change (C := Try.checked) own started (by kernel_rfl) Try.func4
    (ChangeSpec.witness6 (enc := enc) (C := Try.checked) false ⟨#[], #[.agg #[.int .u8 0, .int .u8 0, .int .u8 0, .int .u8 0], .int .u8 0], []⟩ 8 (by kernel_rfl) (by kernel_rfl) (by kernel_rfl) (by kernel_rfl)) ?_
  intro W base args ds gs before hval0 hW hcnd _
  have hval : ∀ (j : Nat) t v, Try.f4.params[j]? = some t → args[j]? = some v → Value.okWide Try.prog W .any base t v := hval0
  have hW' := hW
  obtain ⟨p, q, hA0, hV, rfl, hfz, hnd⟩ := hW
  have hA : DataW.TrodAll enc Try.prog W 0 (fun _ => true) true Try.f4.params.toList args.toList ds p := hA0
  rw [Try.params4] at hA hval
  obtain ⟨v0, v1, d0, d1, p0, p1, rfl, rfl, rfl, h0, h1⟩ := trodAll_two hA
  obtain ⟨rfl, rfl⟩ := trodVars_none hV
  obtain ⟨x0, x1, x2, x3, rfl, rfl, rfl, w0, w1, w2, w3⟩ := open_px Try.underlying27 Try.underlying5 cells27 cells5 (hval 0 27 v0 rfl rfl) h0
  obtain ⟨k, rfl, rfl, rfl, wk⟩ := open_int Try.underlying5 (hval 1 5 v1 rfl rfl) h1
  clear hA0 hval0
  simp only [List.append_nil] at hW'
  refine (walk x0 x1 x2 x3 k W (bounds_u8 w0) (bounds_u8 w1) (bounds_u8 w2) (bounds_u8 w3) (bounds_u8 wk)).mono fun e W' ⟨he, hg⟩ => ?_
  subst he
  exact ⟨_, rfl, post_of_same (pa := []) (pv := []) hW' (fun _ _ _ => trodAll_mk1 (shut_bool Try.underlying4 _)) (fun sp _ => trodAll_mk2 (shut_px Try.underlying27 Try.underlying5 cells27 cells5 w0 w1 w2 w3) (shut_int Try.underlying5 wk)) (fun _ _ => rfl) rfl
    (hg.frame _) hg.2.1 (ok_one (by kernel_rfl) rfl (okWide_bool_mk Try.underlying4 _))⟩

theorem over : Rows.tonePixelsRow.holds Try.pinned (OpenSpec.ofChange Rows.tonePixelsSpec) :=
  OpenClaim.holds_of_wide 4 Try.f4 rfl rfl rfl rfl rfl rfl rfl ⟨rfl, rfl, rfl, rfl, rfl⟩ rfl rfl rfl rfl rfl (by kernel_rfl) Try.func4 (by kernel_rfl)
    (of_decide_eq_true (by kernel_rfl)) (by unfold Func.isWrapper; first | (rw [if_pos (by decide +kernel)]; kernel_rfl) | (rw [if_neg (by decide +kernel)]; exact ⟨rfl, rfl⟩))
    (fun os started H enc _ => lifted os started H enc)

theorem proved : Rows.TonePixelsSaid := over
#print axioms proved
end Go.Proofs.Ythnilblbnglmaaa.tonePixels
