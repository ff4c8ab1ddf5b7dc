/- Turning a sum of two places is the sum of what is turned, and turning by two quarters is turning to the opposite; no condition. -/
import Derived.Test.YtilmmemghpagmaaRows
import Derived.WalkKit
import Derived.ProofKit
import Derived.OpenShut
import Derived.Test.YtilmmemghpagmaaPlain
namespace Go.Proofs.Ytilmmemghpagmaa.vecSums
open Go.ChangeShapes Go.WideShapes Go.ChangeAt Go.RowKit Num
set_option linter.unusedVariables false

theorem own : ownKnob Try.prog.godebug = none := by kernel_rfl

theorem order_same {a : Int} (h : Small a) : FloatKind.f64.format.order (F a) (F a) = some .eq := by
  have : compare a a = .eq := by simp
  rw [← this]; exact order_is (Is.own a) (Is.own a) h h

theorem walk (a0 : Int) (a1 : Int) (a2 : Int) (a3 : Int) (a4 : Int) (w0 : (Lit.int .i64 a0).wf = true) (w1 : (Lit.int .i64 a1).wf = true) (w2 : (Lit.int .i64 a2).wf = true) (w3 : (Lit.int .i64 a3).wf = true) (w4 : (Lit.int .i64 a4).wf = true) (w : World) :
    Calls Try.prog 7 #[.int .i64 a0, .int .i64 a1, .int .i64 a2, .int .i64 a3, .int .i64 a4] w fun e w' => e = .returned (.bool true) ∧ Grown w w' := by
  have b4 := bounds_i64 w4
  by_cases h0 : -1048576 ≤ a0 ∧ a0 ≤ 1048576
  · have n0 : nearB a0 1048576 = true := by unfold nearB; simp; omega
    by_cases h1 : -1048576 ≤ a1 ∧ a1 ≤ 1048576
    · have n1 : nearB a1 1048576 = true := by unfold nearB; simp; omega
      by_cases h2 : -1048576 ≤ a2 ∧ a2 ≤ 1048576
      · have n2 : nearB a2 1048576 = true := by unfold nearB; simp; omega
        by_cases h3 : -1048576 ≤ a3 ∧ a3 ≤ 1048576
        · have n3 : nearB a3 1048576 = true := by unfold nearB; simp; omega
          have t1 := tx_bd (k := a4) h0 h1
          have t2 := ty_bd (k := a4) h0 h1
          have t3 := tx_bd (k := a4) h2 h3
          have t4 := ty_bd (k := a4) h2 h3
          have s0 : Small a0 := small_of (by omega)
          have s1 : Small a1 := small_of (by omega)
          have s2 : Small a2 := small_of (by omega)
          have s3 : Small a3 := small_of (by omega)
          have s4 : Small (a0 + a2) := small_of (by omega)
          have s5 : Small (a1 + a3) := small_of (by omega)
          have u1 : Small (tx a4 a0 a1 + tx a4 a2 a3) := small_of (by omega)
          have u2 : Small (ty a4 a0 a1 + ty a4 a2 a3) := small_of (by omega)
          have E1 := tx_sum (k := a4) (a := a0) (b := a1) (c := a2) (d := a3)
          have E2 := ty_sum (k := a4) (a := a0) (b := a1) (c := a2) (d := a3)
          have c1 := csum_is (Is.own a0) (Is.own a1) s0 s1 s2 s3 s4 s5
          have r1 := fun t w => run_complex_sum (P := Try.prog) w .add (Or.inl rfl) t .f64 _ _ _ _ _ _ c1
          have c2 := csum_is (Is.own (tx a4 a0 a1)) (Is.own (ty a4 a0 a1)) (c := tx a4 a2 a3) (d := ty a4 a2 a3) (small_of (by omega)) (small_of (by omega)) (small_of (by omega)) (small_of (by omega)) u1 u2
          have r2 := fun t w => run_complex_sum (P := Try.prog) w .add (Or.inl rfl) t .f64 _ _ _ _ _ _ c2
          have o1 : FloatKind.f64.format.order (F (tx a4 a0 a1 + tx a4 a2 a3)) (F (tx a4 a0 a1 + tx a4 a2 a3)) = some .eq := order_same u1
          have o2 : FloatKind.f64.format.order (F (ty a4 a0 a1 + ty a4 a2 a3)) (F (ty a4 a0 a1 + ty a4 a2 a3)) = some .eq := order_same u2
          have m1 : tx 2 a0 a1 = -a0 := by unfold tx; simp
          have m2 : ty 2 a0 a1 = -a1 := by unfold ty; simp
          have o3 : FloatKind.f64.format.order (F (-a0)) (F (-a0)) = some .eq := order_same s0.neg
          have o4 : FloatKind.f64.format.order (F (-a1)) (F (-a1)) = some .eq := order_same s1.neg
          clear c1 c2 t1 t2 t3 t4
          obtain ⟨p0, p1⟩ := h0
          obtain ⟨q0, q1⟩ := h1
          go_enter Try.func7, Try.ntmps7
          go_wp2_with (first | (go_at_call 8; refine (near_any _ _ _ (by decide)).mono ?_; rintro e w' ⟨rfl, rfl⟩) | (go_at_call 9; refine (awake_any _).mono ?_; rintro e w' ⟨rfl, rfl⟩) | (go_at_call 11; refine (of_any _ _ _).mono ?_; rintro e w' ⟨rfl, rfl⟩) | (go_at_call 12; refine (turn_any _ _ _ _ ‹_› ‹_›).mono ?_; rintro e w' ⟨rfl, rfl⟩))
          go_ret
          exact ⟨rfl, Grown.refl _⟩
        · have n3 : nearB a3 1048576 = false := by unfold nearB; simp; omega
          go_enter Try.func7, Try.ntmps7
          go_wp2_with (first | (go_at_call 8; refine (near_any _ _ _ (by decide)).mono ?_; rintro e w' ⟨rfl, rfl⟩) | (go_at_call 9; refine (awake_any _).mono ?_; rintro e w' ⟨rfl, rfl⟩))
          go_ret
          exact ⟨rfl, Grown.refl _⟩
      · have n2 : nearB a2 1048576 = false := by unfold nearB; simp; omega
        go_enter Try.func7, Try.ntmps7
        go_wp2_with (first | (go_at_call 8; refine (near_any _ _ _ (by decide)).mono ?_; rintro e w' ⟨rfl, rfl⟩) | (go_at_call 9; refine (awake_any _).mono ?_; rintro e w' ⟨rfl, rfl⟩))
        go_ret
        exact ⟨rfl, Grown.refl _⟩
    · have n1 : nearB a1 1048576 = false := by unfold nearB; simp; omega
      go_enter Try.func7, Try.ntmps7
      go_wp2_with (first | (go_at_call 8; refine (near_any _ _ _ (by decide)).mono ?_; rintro e w' ⟨rfl, rfl⟩) | (go_at_call 9; refine (awake_any _).mono ?_; rintro e w' ⟨rfl, rfl⟩))
      go_ret
      exact ⟨rfl, Grown.refl _⟩
  · have n0 : nearB a0 1048576 = false := by unfold nearB; simp; omega
    go_enter Try.func7, Try.ntmps7
    go_wp2_with (first | (go_at_call 8; refine (near_any _ _ _ (by decide)).mono ?_; rintro e w' ⟨rfl, rfl⟩) | (go_at_call 9; refine (awake_any _).mono ?_; rintro e w' ⟨rfl, rfl⟩))
    go_ret
    exact ⟨rfl, Grown.refl _⟩

set_option maxRecDepth 100000 in
theorem lifted (os : Os) (started : os.Started) (H : Type) (enc : TypeId × Value → H) :
    ReturnsInHanded {} Try.checked os 7 .any (Rows.vecSumsSpec.pre6 enc Try.prog Try.f7 Rows.vecSumsRow.domain false) (Rows.vecSumsSpec.post enc Try.prog Try.f7 false true false false) := by
  refine returnsInHanded_of_change (C := Try.checked) own started (by kernel_rfl) Try.func7
    (ChangeSpec.witness6 (enc := enc) (C := Try.checked) false ⟨#[], #[.int .i64 0, .int .i64 0, .int .i64 0, .int .i64 0, .int .i64 0], []⟩ 8 (by kernel_rfl) (by kernel_rfl) (by kernel_rfl) (by kernel_rfl)) ?_
  intro W base args ds gs before hval0 hW hcnd _
  have hval : ∀ (j : Nat) t v, Try.f7.params[j]? = some t → args[j]? = some v → Value.okWide Try.prog W .any base t v := hval0
  have hW' := hW
  obtain ⟨p, q, hA0, hV, rfl, hfz, hnd⟩ := hW
  have hA : DataW.TrodAll enc Try.prog W 0 (fun _ => true) true Try.f7.params.toList args.toList ds p := hA0
  rw [Try.params7] at hA hval
  obtain ⟨v0, vs0, d0, ds0, p0, q0, hargs, rfl, rfl, h0, r0⟩ := trodAll_cons hA
  obtain ⟨v1, vs1, d1, ds1, p1, q1, rfl, rfl, rfl, h1, r1⟩ := trodAll_cons r0
  obtain ⟨v2, vs2, d2, ds2, p2, q2, rfl, rfl, rfl, h2, r2⟩ := trodAll_cons r1
  obtain ⟨v3, vs3, d3, ds3, p3, q3, rfl, rfl, rfl, h3, r3⟩ := trodAll_cons r2
  obtain ⟨v4, vs4, d4, ds4, p4, q4, rfl, rfl, rfl, h4, r4⟩ := trodAll_cons r3
  obtain ⟨rfl, rfl, rfl⟩ := trodAll_nil r4
  obtain rfl : args = #[v0, v1, v2, v3, v4] := by cases args; simp_all
  obtain ⟨rfl, rfl⟩ := trodVars_none hV
  obtain ⟨a0, rfl, rfl, rfl, w0⟩ := open_int Try.underlying3 (hval 0 3 v0 rfl rfl) h0
  obtain ⟨a1, rfl, rfl, rfl, w1⟩ := open_int Try.underlying3 (hval 1 3 v1 rfl rfl) h1
  obtain ⟨a2, rfl, rfl, rfl, w2⟩ := open_int Try.underlying3 (hval 2 3 v2 rfl rfl) h2
  obtain ⟨a3, rfl, rfl, rfl, w3⟩ := open_int Try.underlying3 (hval 3 3 v3 rfl rfl) h3
  obtain ⟨a4, rfl, rfl, rfl, w4⟩ := open_int Try.underlying3 (hval 4 3 v4 rfl rfl) h4
  clear hA0 hval0
  simp only [List.append_nil] at hW'
  refine (walk a0 a1 a2 a3 a4 w0 w1 w2 w3 w4 W).mono fun e W' ⟨he, hg⟩ => ?_
  subst he
  exact ⟨_, rfl, post_of_same (pa := []) (pv := []) hW' (fun _ _ _ => (trodAll_cons_mk (shut_bool Try.underlying4 _) trodAll_mk0)) (fun sp _ => (trodAll_cons_mk (shut_int Try.underlying3 w0) (trodAll_cons_mk (shut_int Try.underlying3 w1) (trodAll_cons_mk (shut_int Try.underlying3 w2) (trodAll_cons_mk (shut_int Try.underlying3 w3) (trodAll_cons_mk (shut_int Try.underlying3 w4) trodAll_mk0)))))) (fun _ _ => rfl) rfl
    (hg.frame _) hg.2.1 (ok_one (by kernel_rfl) rfl (okWide_bool_mk Try.underlying4 _))⟩

theorem over : Rows.vecSumsRow.holds Try.pinned (OpenSpec.ofChange Rows.vecSumsSpec) :=
  OpenClaim.holds_of_wide 7 Try.f7 rfl rfl rfl rfl rfl rfl rfl ⟨rfl, rfl, rfl, rfl, rfl⟩ rfl rfl rfl rfl rfl (by kernel_rfl) Try.func7 (by kernel_rfl)
    (of_decide_eq_true (by kernel_rfl)) (by unfold Func.isWrapper; first | (rw [if_pos (by decide +kernel)]; kernel_rfl) | (rw [if_neg (by decide +kernel)]; exact ⟨rfl, rfl⟩))
    (fun os started H enc _ => lifted os started H enc)

theorem proved : Rows.VecSumsSaid :=
  over
#print axioms proved
end Go.Proofs.Ytilmmemghpagmaa.vecSums
