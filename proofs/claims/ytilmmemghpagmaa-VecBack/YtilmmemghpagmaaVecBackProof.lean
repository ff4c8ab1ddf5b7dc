/- Where a pixel of a picture comes to when the picture is turned is where it comes from when it is looked up; pixels within come to pixels within, and no others; no condition. -/
import Derived.Test.YtilmmemghpagmaaRows
import Derived.WalkKit
import Derived.ProofKit
import Derived.OpenShut
import Derived.Test.YtilmmemghpagmaaPlain
namespace Go.Proofs.Ytilmmemghpagmaa.vecBack
open Go.ChangeShapes Go.WideShapes Go.ChangeAt Go.RowKit Num
set_option linter.unusedVariables false

theorem own : ownKnob Try.prog.godebug = none := by kernel_rfl

set_option maxHeartbeats 4000000 in
theorem walk (a0 : Int) (a1 : Int) (a2 : Int) (a3 : Int) (a4 : Int) (w0 : (Lit.int .i64 a0).wf = true) (w1 : (Lit.int .i64 a1).wf = true) (w2 : (Lit.int .i64 a2).wf = true) (w3 : (Lit.int .i64 a3).wf = true) (w4 : (Lit.int .i64 a4).wf = true) (w : World) :
    Calls Try.prog 5 #[.int .i64 a0, .int .i64 a1, .int .i64 a2, .int .i64 a3, .int .i64 a4] w fun e w' => e = .returned (.bool true) ∧ Grown w w' := by
  have b2 := bounds_i64 w2
  by_cases h : 1 ≤ a0 ∧ a0 ≤ 1048576 ∧ 1 ≤ a1 ∧ a1 ≤ 1048576 ∧ -1048576 ≤ a3 ∧ a3 ≤ 1048576 ∧ -1048576 ≤ a4 ∧ a4 ≤ 1048576
  · have pb : pictB a0 a1 a3 a4 = true := by unfold pictB; exact decide_eq_true h
    have h0 : 1 ≤ a0 ∧ a0 ≤ 1048576 := by omega
    have h1 : 1 ≤ a1 ∧ a1 ≤ 1048576 := by omega
    have h3 : -1048576 ≤ a3 ∧ a3 ≤ 1048576 := by omega
    have h4 : -1048576 ≤ a4 ∧ a4 ≤ 1048576 := by omega
    have g3 : -4398046511104 ≤ a3 ∧ a3 ≤ 4398046511104 := by omega
    have g4 : -4398046511104 ≤ a4 ∧ a4 ≤ 4398046511104 := by omega
    clear h
    obtain ⟨B1, B2, B3, B4, B5⟩ := back (k := a2) h0 h1 h3 h4
    by_cases hin : 0 ≤ a3 ∧ 0 ≤ a4 ∧ a3 < a0 ∧ a4 < a1
    · obtain ⟨c1, c2, c3, c4⟩ := B5.1 hin
      obtain ⟨i1, i2, i3, i4⟩ := hin
      clear B5
      go_enter Try.func5, Try.ntmps5
      go_wp2_with (first | (go_at_call 9; refine (awake_any _).mono ?_; rintro e w' ⟨rfl, rfl⟩) | (go_at_call 14; refine (picture_any _ _ _ _ _).mono ?_; rintro e w' ⟨rfl, rfl⟩) | (go_at_call 15; refine (size_any _ _ _ _ ‹_› ‹_›).mono ?_; rintro e w' ⟨rfl, rfl⟩) | (go_at_call 17; refine (to_any _ _ _ _ _ _ ‹_› ‹_› ‹_› ‹_›).mono ?_; rintro e w' ⟨rfl, rfl⟩) | (go_at_call 19; refine (from_any _ _ _ _ _ _ ‹_› ‹_› ‹_› ‹_› ‹_›).mono ?_; rintro e w' ⟨rfl, rfl⟩))
      go_ret
      exact ⟨rfl, Grown.refl _⟩
    · have hout : ¬ (0 ≤ toX a0 a1 a2 a3 a4 ∧ 0 ≤ toY a0 a1 a2 a3 a4 ∧ toX a0 a1 a2 a3 a4 < szX a0 a1 a2 ∧ toY a0 a1 a2 a3 a4 < szY a0 a1 a2) := fun c => hin (B5.2 c)
      clear B5
      have f1 : a3 < 0 ∨ (0 ≤ a3 ∧ a4 < 0) ∨ (0 ≤ a3 ∧ 0 ≤ a4 ∧ a0 ≤ a3) ∨ (0 ≤ a3 ∧ 0 ≤ a4 ∧ a3 < a0 ∧ a1 ≤ a4) := by omega
      have f2 : toX a0 a1 a2 a3 a4 < 0 ∨ (0 ≤ toX a0 a1 a2 a3 a4 ∧ toY a0 a1 a2 a3 a4 < 0) ∨ (0 ≤ toX a0 a1 a2 a3 a4 ∧ 0 ≤ toY a0 a1 a2 a3 a4 ∧ szX a0 a1 a2 ≤ toX a0 a1 a2 a3 a4) ∨ (0 ≤ toX a0 a1 a2 a3 a4 ∧ 0 ≤ toY a0 a1 a2 a3 a4 ∧ toX a0 a1 a2 a3 a4 < szX a0 a1 a2 ∧ szY a0 a1 a2 ≤ toY a0 a1 a2 a3 a4) := by omega
      clear hin hout
      rcases f1 with i1 | ⟨i1, i2⟩ | ⟨i1, i2, i3⟩ | ⟨i1, i2, i3, i4⟩ <;> rcases f2 with j1 | ⟨j1, j2⟩ | ⟨j1, j2, j3⟩ | ⟨j1, j2, j3, j4⟩
      all_goals
        go_enter Try.func5, Try.ntmps5
        go_wp2_with (first | (go_at_call 9; refine (awake_any _).mono ?_; rintro e w' ⟨rfl, rfl⟩) | (go_at_call 14; refine (picture_any _ _ _ _ _).mono ?_; rintro e w' ⟨rfl, rfl⟩) | (go_at_call 15; refine (size_any _ _ _ _ ‹_› ‹_›).mono ?_; rintro e w' ⟨rfl, rfl⟩) | (go_at_call 17; refine (to_any _ _ _ _ _ _ ‹_› ‹_› ‹_› ‹_›).mono ?_; rintro e w' ⟨rfl, rfl⟩) | (go_at_call 19; refine (from_any _ _ _ _ _ _ ‹_› ‹_› ‹_› ‹_› ‹_›).mono ?_; rintro e w' ⟨rfl, rfl⟩))
        go_ret
        first | exact ⟨rfl, Grown.refl _⟩ | exact ⟨ret_bool (by simp; omega), Grown.refl _⟩
  · have pb : pictB a0 a1 a3 a4 = false := by unfold pictB; exact decide_eq_false h
    go_enter Try.func5, Try.ntmps5
    go_wp2_with (first | (go_at_call 9; refine (awake_any _).mono ?_; rintro e w' ⟨rfl, rfl⟩) | (go_at_call 14; refine (picture_any _ _ _ _ _).mono ?_; rintro e w' ⟨rfl, rfl⟩))
    go_ret
    exact ⟨rfl, Grown.refl _⟩

set_option maxRecDepth 100000 in
theorem lifted (os : Os) (started : os.Started) (H : Type) (enc : TypeId × Value → H) :
    ReturnsInHanded {} Try.checked os 5 .any (Rows.vecBackSpec.pre6 enc Try.prog Try.f5 Rows.vecBackRow.domain false) (Rows.vecBackSpec.post enc Try.prog Try.f5 false true false false) := by
  refine returnsInHanded_of_change (C := Try.checked) own started (by kernel_rfl) Try.func5
    (ChangeSpec.witness6 (enc := enc) (C := Try.checked) false ⟨#[], #[.int .i64 0, .int .i64 0, .int .i64 0, .int .i64 0, .int .i64 0], []⟩ 8 (by kernel_rfl) (by kernel_rfl) (by kernel_rfl) (by kernel_rfl)) ?_
  intro W base args ds gs before hval0 hW hcnd _
  have hval : ∀ (j : Nat) t v, Try.f5.params[j]? = some t → args[j]? = some v → Value.okWide Try.prog W .any base t v := hval0
  have hW' := hW
  obtain ⟨p, q, hA0, hV, rfl, hfz, hnd⟩ := hW
  have hA : DataW.TrodAll enc Try.prog W 0 (fun _ => true) true Try.f5.params.toList args.toList ds p := hA0
  rw [Try.params5] at hA hval
  obtain ⟨v0, vs0, d0, ds0, p0, q0, hargs, rfl, rfl, h0, r0⟩ := trodAll_cons hA
  obtain ⟨v1, vs1, d1, ds1, p1, q1, rfl, rfl, rfl, h1, r1⟩ := trodAll_cons r0
  obtain ⟨v2, vs2, d2, ds2, p2, q2, rfl, rfl, rfl, h2, r2⟩ := trodAll_cons r1
  obtain ⟨v3, vs3, d3, ds3, p3, q3, rfl, rfl, rfl, h3, r3⟩ := trodAll_cons r2
  obtain ⟨v4, vs4, d4, ds4, p4, q4, rfl, rfl, rfl, h4, r4⟩ := trodAll_cons r3
  obtain ⟨rfl, rfl, rfl⟩ := trodAll_nil r4
  obtain rfl : args = #[v0, v1, v2, v3, v4] := by cases args; simp_all
  obtain ⟨rfl, rfl⟩ := trodVars_none hV
  obtain ⟨a0, rfl, rfl, rfl, w0⟩ := open_int Try.underlying3 (hval 0 3 v0 rfl rfl) h0
  obtain ⟨a1, rfl, rfl, rfl, w1⟩ := open_int Try.underlying3 (hval 1 3 v1 rfl rfl) h1
  obtain ⟨a2, rfl, rfl, rfl, w2⟩ := open_int Try.underlying3 (hval 2 3 v2 rfl rfl) h2
  obtain ⟨a3, rfl, rfl, rfl, w3⟩ := open_int Try.underlying3 (hval 3 3 v3 rfl rfl) h3
  obtain ⟨a4, rfl, rfl, rfl, w4⟩ := open_int Try.underlying3 (hval 4 3 v4 rfl rfl) h4
  clear hA0 hval0
  simp only [List.append_nil] at hW'
  refine (walk a0 a1 a2 a3 a4 w0 w1 w2 w3 w4 W).mono fun e W' ⟨he, hg⟩ => ?_
  subst he
  exact ⟨_, rfl, post_of_same (pa := []) (pv := []) hW' (fun _ _ _ => (trodAll_cons_mk (shut_bool Try.underlying4 _) trodAll_mk0)) (fun sp _ => (trodAll_cons_mk (shut_int Try.underlying3 w0) (trodAll_cons_mk (shut_int Try.underlying3 w1) (trodAll_cons_mk (shut_int Try.underlying3 w2) (trodAll_cons_mk (shut_int Try.underlying3 w3) (trodAll_cons_mk (shut_int Try.underlying3 w4) trodAll_mk0)))))) (fun _ _ => rfl) rfl
    (hg.frame _) hg.2.1 (ok_one (by kernel_rfl) rfl (okWide_bool_mk Try.underlying4 _))⟩

theorem over : Rows.vecBackRow.holds Try.pinned (OpenSpec.ofChange Rows.vecBackSpec) :=
  OpenClaim.holds_of_wide 5 Try.f5 rfl rfl rfl rfl rfl rfl rfl ⟨rfl, rfl, rfl, rfl, rfl⟩ rfl rfl rfl rfl rfl (by kernel_rfl) Try.func5 (by kernel_rfl)
    (of_decide_eq_true (by kernel_rfl)) (by unfold Func.isWrapper; first | (rw [if_pos (by decide +kernel)]; kernel_rfl) | (rw [if_neg (by decide +kernel)]; exact ⟨rfl, rfl⟩))
    (fun os started H enc _ => lifted os started H enc)

theorem proved : Rows.VecBackSaid :=
  over
#print axioms proved
end Go.Proofs.Ytilmmemghpagmaa.vecBack
