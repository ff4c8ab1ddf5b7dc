/- A right region of few rectangles, moved and grown, its bounds and its area are what the document makes of them; no condition. -/
import Derived.Test.YtlakklpnajgjiaaRows
import Derived.WalkKit
import Derived.ProofKit
import Derived.OpenShut
import Derived.Test.YtlakklpnajgjiaaOpen
import Derived.Test.YtlakklpnajgjiaaRBounds
namespace Go.Proofs.Ytlakklpnajgjiaa.regionMoves
open Go.ChangeShapes Go.WideShapes Go.ChangeAt Go.RowKit Num
set_option linter.unusedVariables false
set_option linter.unusedSimpArgs false
attribute [local go_sem ↓] eqR

theorem of_few {l : List R} (h : (fewB l && refRightB l) = true) : l.length ≤ 20 ∧ Reg l ∧ ∀ r ∈ l, Ok r := by
  rw [Bool.and_eq_true] at h
  have h1 := h.1
  unfold fewB at h1
  rw [Bool.and_eq_true] at h1
  exact ⟨of_decide_eq_true h1.1, of_refRight h.2⟩

theorem of_near {n : Int} (h : nearB n = true) : -4398046511104 ≤ n ∧ n ≤ 4398046511104 := by
  unfold nearB at h
  exact of_decide_eq_true h
theorem same4 (r : R) : eq4 r.x0 r.y0 r.x1 r.y1 r.x0 r.y0 r.x1 r.y1 = true := decide_eq_true rfl

set_option maxRecDepth 100000 in
set_option maxHeartbeats 4000000 in
theorem walk (ao : Option Addr) (n c b off : Nat) (l : List R) (dx dy k : Int) (w : World) (h : Vw w ao n c b off l) :
    Calls Try.prog 5 #[.slice ao n c, .int .i64 dx, .int .i64 dy, .int .i64 k] w fun e w' => e = .returned (.bool true) ∧ Below w.heap.size w w' := by
  have H := hid h
  have HB := hid (Below.refl w.heap.size w)
  clear h
  rcases hR : (fewB l && refRightB l) with _ | _
  · have HR := hid hR
    clear hR
    go_enter Try.func5, Try.ntmps5
    go_wp2_with (first
      | (go_at_call 8; with_reducible refine Calls.mono (awake_any _) ?_; rintro e wc ⟨rfl, hb⟩; replace HB := hid (step0 HB.out hb); clear hb)
      | (go_at_call 15; with_reducible refine Calls.mono (isRight_any ao n c b off l wc (H.out.below HB.out)) ?_; rintro e wc ⟨rfl, hb⟩; rw [HR.out]; replace HB := hid (step0 HB.out hb); clear hb))
    go_ret
    exact ⟨rfl, HB.out⟩
  rcases hx : nearB dx with _ | _
  · have HR := hid (And.intro hR hx)
    clear hR hx
    go_enter Try.func5, Try.ntmps5
    go_wp2_with (first
      | (go_at_call 8; with_reducible refine Calls.mono (awake_any _) ?_; rintro e wc ⟨rfl, hb⟩; replace HB := hid (step0 HB.out hb); clear hb)
      | (go_at_call 15; with_reducible refine Calls.mono (isRight_any ao n c b off l wc (H.out.below HB.out)) ?_; rintro e wc ⟨rfl, hb⟩; rw [HR.out.1]; replace HB := hid (step0 HB.out hb); clear hb)
      | (go_at_call 20; with_reducible refine Calls.mono (Rc.near_any dx _) ?_; rintro e w9 ⟨rfl, hw⟩; rw [HR.out.2]; replace hw := hw.symm; subst hw))
    go_ret
    exact ⟨rfl, HB.out⟩
  rcases hy : nearB dy with _ | _
  · have HR := hid (And.intro hR (And.intro hx hy))
    clear hR hx hy
    go_enter Try.func5, Try.ntmps5
    go_wp2_with (first
      | (go_at_call 8; with_reducible refine Calls.mono (awake_any _) ?_; rintro e wc ⟨rfl, hb⟩; replace HB := hid (step0 HB.out hb); clear hb)
      | (go_at_call 15; with_reducible refine Calls.mono (isRight_any ao n c b off l wc (H.out.below HB.out)) ?_; rintro e wc ⟨rfl, hb⟩; rw [HR.out.1]; replace HB := hid (step0 HB.out hb); clear hb)
      | (go_at_call 20; with_reducible refine Calls.mono (Rc.near_any dx _) ?_; rintro e w9 ⟨rfl, hw⟩; rw [HR.out.2.1]; replace hw := hw.symm; subst hw)
      | (go_at_call 20; with_reducible refine Calls.mono (Rc.near_any dy _) ?_; rintro e w9 ⟨rfl, hw⟩; rw [HR.out.2.2]; replace hw := hw.symm; subst hw))
    go_ret
    exact ⟨rfl, HB.out⟩
  rcases hz : nearB k with _ | _
  · have HR := hid (And.intro hR (And.intro hx (And.intro hy hz)))
    clear hR hx hy hz
    go_enter Try.func5, Try.ntmps5
    go_wp2_with (first
      | (go_at_call 8; with_reducible refine Calls.mono (awake_any _) ?_; rintro e wc ⟨rfl, hb⟩; replace HB := hid (step0 HB.out hb); clear hb)
      | (go_at_call 15; with_reducible refine Calls.mono (isRight_any ao n c b off l wc (H.out.below HB.out)) ?_; rintro e wc ⟨rfl, hb⟩; rw [HR.out.1]; replace HB := hid (step0 HB.out hb); clear hb)
      | (go_at_call 20; with_reducible refine Calls.mono (Rc.near_any dx _) ?_; rintro e w9 ⟨rfl, hw⟩; rw [HR.out.2.1]; replace hw := hw.symm; subst hw)
      | (go_at_call 20; with_reducible refine Calls.mono (Rc.near_any dy _) ?_; rintro e w9 ⟨rfl, hw⟩; rw [HR.out.2.2.1]; replace hw := hw.symm; subst hw)
      | (go_at_call 20; with_reducible refine Calls.mono (Rc.near_any k _) ?_; rintro e w9 ⟨rfl, hw⟩; rw [HR.out.2.2.2]; replace hw := hw.symm; subst hw))
    go_ret
    exact ⟨rfl, HB.out⟩
  by_cases hk : k < 0
  · have HR := hid (And.intro hR (And.intro hx (And.intro hy hz)))
    clear hR hx hy hz
    go_enter Try.func5, Try.ntmps5
    go_wp2_with (first
      | (go_at_call 8; with_reducible refine Calls.mono (awake_any _) ?_; rintro e wc ⟨rfl, hb⟩; replace HB := hid (step0 HB.out hb); clear hb)
      | (go_at_call 15; with_reducible refine Calls.mono (isRight_any ao n c b off l wc (H.out.below HB.out)) ?_; rintro e wc ⟨rfl, hb⟩; rw [HR.out.1]; replace HB := hid (step0 HB.out hb); clear hb)
      | (go_at_call 20; with_reducible refine Calls.mono (Rc.near_any dx _) ?_; rintro e w9 ⟨rfl, hw⟩; rw [HR.out.2.1]; replace hw := hw.symm; subst hw)
      | (go_at_call 20; with_reducible refine Calls.mono (Rc.near_any dy _) ?_; rintro e w9 ⟨rfl, hw⟩; rw [HR.out.2.2.1]; replace hw := hw.symm; subst hw)
      | (go_at_call 20; with_reducible refine Calls.mono (Rc.near_any k _) ?_; rintro e w9 ⟨rfl, hw⟩; rw [HR.out.2.2.2]; replace hw := hw.symm; subst hw))
    go_ret
    exact ⟨rfl, HB.out⟩
  have HR := hid (And.intro hR (And.intro hx (And.intro hy hz)))
  obtain ⟨l20, rl, okl⟩ := of_few hR
  have hN1 : l.length ≤ 100 := by omega
  have ux := of_near hx
  have uy := of_near hy
  have uz := of_near hz
  have uk : Up k := ⟨by omega, uz.2⟩
  have u1 : Up 1 := ⟨by omega, by omega⟩
  have u2 : Up 2 := ⟨by omega, by omega⟩
  have HU := hid (And.intro ux (And.intro uy (And.intro uk (And.intro u1 u2))))
  have HK := hid okl
  have e4 := same4 (boundsF l)
  clear hR hx hy hz rl okl ux uy uz uk u1 u2
  go_enter Try.func5, Try.ntmps5
  go_wp2_with (first
    | (go_at_call 8; with_reducible refine Calls.mono (awake_any _) ?_; rintro e wc ⟨rfl, hb⟩; replace HB := hid (step0 HB.out hb); clear hb)
    | (go_at_call 15; with_reducible refine Calls.mono (isRight_any ao n c b off l wc (H.out.below HB.out)) ?_; rintro e wc ⟨rfl, hb⟩; rw [HR.out.1]; replace HB := hid (step0 HB.out hb); clear hb)
    | (go_at_call 20; with_reducible refine Calls.mono (Rc.near_any dx _) ?_; rintro e w9 ⟨rfl, hw⟩; rw [HR.out.2.1]; replace hw := hw.symm; subst hw)
    | (go_at_call 20; with_reducible refine Calls.mono (Rc.near_any dy _) ?_; rintro e w9 ⟨rfl, hw⟩; rw [HR.out.2.2.1]; replace hw := hw.symm; subst hw)
    | (go_at_call 20; with_reducible refine Calls.mono (Rc.near_any k _) ?_; rintro e w9 ⟨rfl, hw⟩; rw [HR.out.2.2.2]; replace hw := hw.symm; subst hw)
    | (go_at_call 21; with_reducible refine Calls.mono (move_any wc ao n c b off l dx dy (H.out.below HB.out) hN1 HK.out HU.out.1 HU.out.2.1) ?_; rintro e wc ⟨hr, hb⟩; obtain ⟨ao1, n1, c1, b1, off1, rfl, hO⟩ := retO hr; have HX := hid hO; replace HB := hid (step0 HB.out hb); clear hb hr hO)
    | (go_at_call 22; with_reducible refine Calls.mono (refMoveL_any wc ao n c b off l dx dy (H.out.below HB.out) hN1 HK.out HU.out.1 HU.out.2.1) ?_; rintro e wc ⟨hr, hb⟩; obtain ⟨ao2, n2, c2, b2, off2, rfl, hO⟩ := retO hr; have HY := hid hO; replace HX := hid (HX.out.below hb); replace HB := hid (step0 HB.out hb); clear hb hr hO)
    | (go_at_call 23; with_reducible refine Calls.mono (grow_any wc ao n c b off l k 1 2 k (H.out.below HB.out) hN1 HK.out HU.out.2.2.1 HU.out.2.2.2.1 HU.out.2.2.2.2 HU.out.2.2.1) ?_; rintro e wc ⟨hr, hb⟩; obtain ⟨ao1, n1, c1, b1, off1, rfl, hO⟩ := retO hr; have HX := hid hO; replace HB := hid (step0 HB.out hb); clear hb hr hO)
    | (go_at_call 24; with_reducible refine Calls.mono (refGrowL_any wc ao n c b off l k 1 2 k (H.out.below HB.out) hN1 HK.out HU.out.2.2.1 HU.out.2.2.2.1 HU.out.2.2.2.2 HU.out.2.2.1) ?_; rintro e wc ⟨hr, hb⟩; obtain ⟨ao2, n2, c2, b2, off2, rfl, hO⟩ := retO hr; have HY := hid hO; replace HX := hid (HX.out.below hb); replace HB := hid (step0 HB.out hb); clear hb hr hO)
    | (go_at_call 11; with_reducible refine Calls.mono (same_any ao1 n1 c1 b1 off1 _ ao2 n2 c2 b2 off2 _ wc HX.out.v HY.out.v) ?_; rintro e wc ⟨rfl, hb⟩; rw [decide_eq_true rfl]; replace HB := hid (step0 HB.out hb); clear hb HX HY)
    | (go_at_call 25; with_reducible refine Calls.mono (bounds_any wc ao n c b off l (H.out.below HB.out)) ?_; rintro e wc ⟨rfl, hb⟩; replace HB := hid (step0 HB.out hb); clear hb)
    | (go_at_call 26; with_reducible refine Calls.mono (refBounds_any wc ao n c b off l (H.out.below HB.out)) ?_; rintro e wc ⟨rfl, hb⟩; replace HB := hid (step0 HB.out hb); clear hb)
    | (go_at_call 27; with_reducible refine Calls.mono (area_any wc ao n c b off l (H.out.below HB.out) HK.out) ?_; rintro e wc ⟨rfl, hb⟩; replace HB := hid (step0 HB.out hb); clear hb)
    | (go_at_call 28; with_reducible refine Calls.mono (refAreaL_any wc ao n c b off l (H.out.below HB.out) HK.out) ?_; rintro e wc ⟨rfl, hb⟩; replace HB := hid (step0 HB.out hb); clear hb))
  go_ret
  exact ⟨rfl, HB.out⟩

theorem own : ownKnob Try.prog.godebug = none := by kernel_rfl

set_option maxRecDepth 100000 in
theorem lifted (os : Os) (started : os.Started) (H : Type) (enc : TypeId × Value → H) :
    ReturnsInHanded {} Try.checked os 5 .any (Rows.regionMovesSpec.pre6 enc Try.prog Try.f5 Rows.regionMovesRow.domain false) (Rows.regionMovesSpec.post enc Try.prog Try.f5 false true false false) := by
  refine returnsInHanded_of_change (C := Try.checked) own started (by kernel_rfl) Try.func5
    (ChangeSpec.witness6 (enc := enc) (C := Try.checked) false ⟨#[], #[.slice none 0 0, .int .i64 0, .int .i64 0, .int .i64 0], []⟩ 8 (by kernel_rfl) (by kernel_rfl) (by kernel_rfl) (by kernel_rfl)) ?_
  intro W base args ds gs before hval0 hW hcnd _
  have hval : ∀ (j : Nat) t v, Try.f5.params[j]? = some t → args[j]? = some v → Value.okWide Try.prog W .any base t v := hval0
  have hW' := hW
  obtain ⟨p, q, hA0, hV, rfl, hfz, hnd⟩ := hW
  have hA : DataW.TrodAll enc Try.prog W 0 (fun _ => true) true Try.f5.params.toList args.toList ds p := hA0
  rw [Try.params5] at hA hval
  obtain ⟨v0, vs0, d0, ds0, p0, q0, hargs, rfl, rfl, h0, r0⟩ := trodAll_cons hA
  obtain ⟨v1, vs1, d1, ds1, p1, q1, rfl, rfl, rfl, h1, r1⟩ := trodAll_cons r0
  obtain ⟨v2, vs2, d2, ds2, p2, q2, rfl, rfl, rfl, h2, r2⟩ := trodAll_cons r1
  obtain ⟨v3, vs3, d3, ds3, p3, q3, rfl, rfl, rfl, h3, r3⟩ := trodAll_cons r2
  obtain ⟨rfl, rfl, rfl⟩ := trodAll_nil r3
  obtain rfl : args = #[v0, v1, v2, v3] := by cases args; simp_all
  obtain ⟨rfl, rfl⟩ := trodVars_none hV
  obtain ⟨ao, n, c, b, off, l, rfl, hv⟩ := open_rects Try.underlying27 (hval 0 27 v0 rfl rfl) h0
  obtain ⟨x1, rfl, rfl, rfl, w1⟩ := open_int Try.underlying3 (hval 1 3 v1 rfl rfl) h1
  obtain ⟨x2, rfl, rfl, rfl, w2⟩ := open_int Try.underlying3 (hval 2 3 v2 rfl rfl) h2
  obtain ⟨x3, rfl, rfl, rfl, w3⟩ := open_int Try.underlying3 (hval 3 3 v3 rfl rfl) h3
  clear hA0 hval0
  simp only [List.append_nil] at hW'
  have hlt : ∀ x ∈ p0, x.block < W.heap.size := fun x hx => by simpa using hW'.lt x (by simpa using hx)
  refine (walk ao n c b off l x1 x2 x3 W hv).mono fun e W' ⟨he, hg⟩ => ?_
  subst he
  have t0 := Below.trod laidOut (by kernel_rfl) (of_decide_eq_true (by kernel_rfl)) h0 hg hlt
  exact ⟨_, rfl, ⟨_, _, _, _, _, _, hW', (trodAll_cons_mk (shut_bool Try.underlying4 _) trodAll_mk0), (trodAll_cons_mk t0 (trodAll_cons_mk (shut_int Try.underlying3 w1) (trodAll_cons_mk (shut_int Try.underlying3 w2) (trodAll_cons_mk (shut_int Try.underlying3 w3) trodAll_mk0)))), rfl, hg.frame _, fun h => by cases h⟩⟩

theorem over : Rows.regionMovesRow.holds Try.pinned (OpenSpec.ofChange Rows.regionMovesSpec) :=
  OpenClaim.holds_of_wide 5 Try.f5 rfl rfl rfl rfl rfl rfl rfl ⟨rfl, rfl, rfl, rfl, rfl⟩ rfl rfl rfl rfl rfl (by kernel_rfl) Try.func5 (by kernel_rfl)
    (of_decide_eq_true (by kernel_rfl)) (by unfold Func.isWrapper; first | (rw [if_pos (by decide +kernel)]; kernel_rfl) | (rw [if_neg (by decide +kernel)]; exact ⟨rfl, rfl⟩))
    (fun os started H enc _ => lifted os started H enc)

theorem proved : Rows.RegionMovesSaid := over
#print axioms proved
end Go.Proofs.Ytlakklpnajgjiaa.regionMoves
