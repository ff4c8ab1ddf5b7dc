/- For every pixel and every tone: what Thick makes is right, Scale by 255 changes nothing, and of a right pixel Scale is right and Thick of Plain is that pixel; no condition. -/
import Derived.Test.YthnilblbnglmaaaRows
import Derived.WalkKit
import Derived.ProofKit
import Derived.OpenShut
import Derived.Test.YthnilblbnglmaaaAwake
import Derived.Test.YthnilblbnglmaaaOpen
namespace Go.Proofs.Ythnilblbnglmaaa.toneRight
open Go.ChangeShapes Go.WideShapes Go.ChangeAt Go.RowKit Num
set_option linter.unusedVariables false
attribute [local go_sem ↓] Go.wp_at_zero Go.wp_at_succ
theorem Grown.drewN' {W w' : World} (h : Grown W w') (n : Nat) : Grown W (w'.drewN n) := h

set_option maxHeartbeats 1000000 in
theorem walk (r g b a k : Int) (w : World) (hr : 0 ≤ r ∧ r ≤ 255) (hg : 0 ≤ g ∧ g ≤ 255) (hb : 0 ≤ b ∧ b ≤ 255) (ha : 0 ≤ a ∧ a ≤ 255) (hk : 0 ≤ k ∧ k ≤ 255) :
    Calls Try.prog 7 #[.agg #[.int .u8 r, .int .u8 g, .int .u8 b, .int .u8 a], .int .u8 k] w fun e w' => e = .returned (.bool true) ∧ Grown w w' := by
  have hE := eqPx
  have h255 : (0:Int) ≤ 255 ∧ (255:Int) ≤ 255 := by decide
  have mr := mul_bd hr ha
  have mg := mul_bd hg ha
  have mb := mul_bd hb ha
  have e1 : rightB (mulI r a) (mulI g a) (mulI b a) a = true := right_yes (mul_le' hr ha) (mul_le' hg ha) (mul_le' hb ha)
  have s0 := mul_255 hr
  have s1 := mul_255 hg
  have s2 := mul_255 hb
  have s3 := mul_255 ha
  by_cases hR : r ≤ a ∧ g ≤ a ∧ b ≤ a
  · obtain ⟨h1, h2, h3⟩ := hR
    have e2 : rightB r g b a = true := right_yes h1 h2 h3
    have e3 : rightB (mulI r k) (mulI g k) (mulI b k) (mulI a k) = true := right_yes (mul_mono h1 hk.1) (mul_mono h2 hk.1) (mul_mono h3 hk.1)
    have k0 := mul_bd hr hk
    have k1 := mul_bd hg hk
    have k2 := mul_bd hb hk
    have k3 := mul_bd ha hk
    have d0 := div_bd hr.1 ha.1
    have d1 := div_bd hg.1 ha.1
    have d2 := div_bd hb.1 ha.1
    have t0 := back hr.1 h1 ha.2
    have t1 := back hg.1 h2 ha.2
    have t2 := back hb.1 h3 ha.2
    clear h1 h2 h3
    go_enter Try.func7, Try.ntmps7
    go_wp2
    go_region_held3 (fun w' => w'.cell? ⟨w.heap.size, 0, none⟩ = some (.int .u8 r) ∧ w'.cell? ⟨w.heap.size, 1, none⟩ = some (.int .u8 g) ∧ w'.cell? ⟨w.heap.size, 2, none⟩ = some (.int .u8 b) ∧ w'.cell? ⟨w.heap.size, 3, none⟩ = some (.int .u8 a)) (simp [go_sem, World.cell?_alloc_past]) ((first | (go_at_call 8; refine (awake_any _).mono ?_; rintro e w' ⟨rfl, c1, c2, c3, n, rfl⟩) | (go_at_call 15; refine (right_any _ _ _ _ _ ‹_› ‹_› ‹_› ‹_›).mono ?_; rintro e w' ⟨rfl, c, rfl⟩) | (go_at_call 17; refine (scale_any _ _ _ _ _ ‹_› ‹_› ‹_› ‹_› _ ‹_›).mono ?_; rintro e w' ⟨rfl, c1, c2, n, rfl⟩) | (go_at_call 19; refine (plain_any _ _ _ _ _ ‹_› ‹_› ‹_› ‹_›).mono ?_; rintro e w' ⟨rfl, c1, c2, n, rfl⟩) | (go_at_call 21; refine (thick_any _ _ _ _ _ ‹_› ‹_› ‹_› ‹_›).mono ?_; rintro e w' ⟨rfl, c1, c2, n, rfl⟩)))
    go_wp2_with (first | (go_at_call 8; refine (awake_any _).mono ?_; rintro e w' ⟨rfl, c1, c2, c3, n, rfl⟩) | (go_at_call 15; refine (right_any _ _ _ _ _ ‹_› ‹_› ‹_› ‹_›).mono ?_; rintro e w' ⟨rfl, c, rfl⟩) | (go_at_call 17; refine (scale_any _ _ _ _ _ ‹_› ‹_› ‹_› ‹_› _ ‹_›).mono ?_; rintro e w' ⟨rfl, c1, c2, n, rfl⟩) | (go_at_call 19; refine (plain_any _ _ _ _ _ ‹_› ‹_› ‹_› ‹_›).mono ?_; rintro e w' ⟨rfl, c1, c2, n, rfl⟩) | (go_at_call 21; refine (thick_any _ _ _ _ _ ‹_› ‹_› ‹_› ‹_›).mono ?_; rintro e w' ⟨rfl, c1, c2, n, rfl⟩))
    go_region_held3 (fun w' => w'.cell? ⟨w.heap.size, 0, none⟩ = some (.int .u8 r) ∧ w'.cell? ⟨w.heap.size, 1, none⟩ = some (.int .u8 g) ∧ w'.cell? ⟨w.heap.size, 2, none⟩ = some (.int .u8 b) ∧ w'.cell? ⟨w.heap.size, 3, none⟩ = some (.int .u8 a)) (simp [go_sem, World.cell?_alloc_past]) ((first | (go_at_call 8; refine (awake_any _).mono ?_; rintro e w' ⟨rfl, c1, c2, c3, n, rfl⟩) | (go_at_call 15; refine (right_any _ _ _ _ _ ‹_› ‹_› ‹_› ‹_›).mono ?_; rintro e w' ⟨rfl, c, rfl⟩) | (go_at_call 17; refine (scale_any _ _ _ _ _ ‹_› ‹_› ‹_› ‹_› _ ‹_›).mono ?_; rintro e w' ⟨rfl, c1, c2, n, rfl⟩) | (go_at_call 19; refine (plain_any _ _ _ _ _ ‹_› ‹_› ‹_› ‹_›).mono ?_; rintro e w' ⟨rfl, c1, c2, n, rfl⟩) | (go_at_call 21; refine (thick_any _ _ _ _ _ ‹_› ‹_› ‹_› ‹_›).mono ?_; rintro e w' ⟨rfl, c1, c2, n, rfl⟩)))
    go_wp2
    go_ret
    exact ⟨rfl, by repeat (first | with_reducible exact Grown.refl _ | with_reducible apply Grown.drewN' | with_reducible apply Grown.drew | with_reducible apply Grown.alloc)⟩
  · have e2 := right_no hR
    clear hR
    go_enter Try.func7, Try.ntmps7
    go_wp2
    go_region_held3 (fun w' => w'.cell? ⟨w.heap.size, 0, none⟩ = some (.int .u8 r) ∧ w'.cell? ⟨w.heap.size, 1, none⟩ = some (.int .u8 g) ∧ w'.cell? ⟨w.heap.size, 2, none⟩ = some (.int .u8 b) ∧ w'.cell? ⟨w.heap.size, 3, none⟩ = some (.int .u8 a)) (simp [go_sem, World.cell?_alloc_past]) ((first | (go_at_call 8; refine (awake_any _).mono ?_; rintro e w' ⟨rfl, c1, c2, c3, n, rfl⟩) | (go_at_call 15; refine (right_any _ _ _ _ _ ‹_› ‹_› ‹_› ‹_›).mono ?_; rintro e w' ⟨rfl, c, rfl⟩) | (go_at_call 17; refine (scale_any _ _ _ _ _ ‹_› ‹_› ‹_› ‹_› _ ‹_›).mono ?_; rintro e w' ⟨rfl, c1, c2, n, rfl⟩) | (go_at_call 19; refine (plain_any _ _ _ _ _ ‹_› ‹_› ‹_› ‹_›).mono ?_; rintro e w' ⟨rfl, c1, c2, n, rfl⟩) | (go_at_call 21; refine (thick_any _ _ _ _ _ ‹_› ‹_› ‹_› ‹_›).mono ?_; rintro e w' ⟨rfl, c1, c2, n, rfl⟩)))
    go_wp2_with (first | (go_at_call 8; refine (awake_any _).mono ?_; rintro e w' ⟨rfl, c1, c2, c3, n, rfl⟩) | (go_at_call 15; refine (right_any _ _ _ _ _ ‹_› ‹_› ‹_› ‹_›).mono ?_; rintro e w' ⟨rfl, c, rfl⟩) | (go_at_call 17; refine (scale_any _ _ _ _ _ ‹_› ‹_› ‹_› ‹_› _ ‹_›).mono ?_; rintro e w' ⟨rfl, c1, c2, n, rfl⟩) | (go_at_call 19; refine (plain_any _ _ _ _ _ ‹_› ‹_› ‹_› ‹_›).mono ?_; rintro e w' ⟨rfl, c1, c2, n, rfl⟩) | (go_at_call 21; refine (thick_any _ _ _ _ _ ‹_› ‹_› ‹_› ‹_›).mono ?_; rintro e w' ⟨rfl, c1, c2, n, rfl⟩))
    go_ret
    exact ⟨rfl, by repeat (first | with_reducible exact Grown.refl _ | with_reducible apply Grown.drewN' | with_reducible apply Grown.drew | with_reducible apply Grown.alloc)⟩

theorem own : ownKnob Try.prog.godebug = none := by kernel_rfl
theorem cells5 : Try.prog.cellsOf 5 = 1 := by kernel_rfl
theorem cells27 : Try.prog.cellsOf 27 = 4 := by kernel_rfl

set_option maxHeartbeats 400000 in
set_option maxRecDepth 100000 in
theorem lifted (os : Os) (started : os.Started) (H : Type) (enc : TypeId × Value → H) :
    ReturnsInHanded {} Try.checked os 7 .any (Rows.toneRightSpec.pre6 enc Try.prog Try.f7 Rows.toneRightRow.domain false) (Rows.toneRightSpec.post enc Try.prog Try.f7 false true false false) := by
  refine returnsInHanded_of_change (C := Try.checked) own started (by kernel_rfl) Try.func7
    (ChangeSpec.witness6 (enc := enc) (C := Try.checked) false ⟨#[], #[.agg #[.int .u8 0, .int .u8 0, .int .u8 0, .int .u8 0], .int .u8 0], []⟩ 8 (by kernel_rfl) (by kernel_rfl) (by kernel_rfl) (by kernel_rfl)) ?_
  intro W base args ds gs before hval0 hW hcnd _
  have hval : ∀ (j : Nat) t v, Try.f7.params[j]? = some t → args[j]? = some v → Value.okWide Try.prog W .any base t v := hval0
  have hW' := hW
  obtain ⟨p, q, hA0, hV, rfl, hfz, hnd⟩ := hW
  have hA : DataW.TrodAll enc Try.prog W 0 (fun _ => true) true Try.f7.params.toList args.toList ds p := hA0
  rw [Try.params7] at hA hval
  obtain ⟨v0, v1, d0, d1, p0, p1, rfl, rfl, rfl, h0, h1⟩ := trodAll_two hA
  obtain ⟨rfl, rfl⟩ := trodVars_none hV
  obtain ⟨x0, x1, x2, x3, rfl, rfl, rfl, w0, w1, w2, w3⟩ := open_px Try.underlying27 Try.underlying5 cells27 cells5 (hval 0 27 v0 rfl rfl) h0
  obtain ⟨k, rfl, rfl, rfl, wk⟩ := open_int Try.underlying5 (hval 1 5 v1 rfl rfl) h1
  clear hA0 hval0
  simp only [List.append_nil] at hW'
  refine (walk x0 x1 x2 x3 k W (bounds_u8 w0) (bounds_u8 w1) (bounds_u8 w2) (bounds_u8 w3) (bounds_u8 wk)).mono fun e W' ⟨he, hg⟩ => ?_
  subst he
  exact ⟨_, rfl, post_of_same (pa := []) (pv := []) hW' (fun _ _ _ => trodAll_mk1 (shut_bool Try.underlying4 _)) (fun sp _ => trodAll_mk2 (shut_px Try.underlying27 Try.underlying5 cells27 cells5 w0 w1 w2 w3) (shut_int Try.underlying5 wk)) (fun _ _ => rfl) rfl
    (hg.frame _) hg.2.1 (ok_one (by kernel_rfl) rfl (okWide_bool_mk Try.underlying4 _))⟩

theorem over : Rows.toneRightRow.holds Try.pinned (OpenSpec.ofChange Rows.toneRightSpec) :=
  OpenClaim.holds_of_wide 7 Try.f7 rfl rfl rfl rfl rfl rfl rfl ⟨rfl, rfl, rfl, rfl, rfl⟩ rfl rfl rfl rfl rfl (by kernel_rfl) Try.func7 (by kernel_rfl)
    (of_decide_eq_true (by kernel_rfl)) (by unfold Func.isWrapper; first | (rw [if_pos (by decide +kernel)]; kernel_rfl) | (rw [if_neg (by decide +kernel)]; exact ⟨rfl, rfl⟩))
    (fun os started H enc _ => lifted os started H enc)

theorem proved : Rows.ToneRightSaid := over
#print axioms proved
end Go.Proofs.Ythnilblbnglmaaa.toneRight
