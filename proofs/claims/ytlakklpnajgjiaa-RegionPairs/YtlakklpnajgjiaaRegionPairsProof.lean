/- Two right regions of few rectangles, joined, met and cut, are just the regions that the document's grid of cells makes; no condition. -/
import Derived.Test.YtlakklpnajgjiaaRows
import Derived.WalkKit
import Derived.ProofKit
import Derived.OpenShut
import Derived.Test.YtlakklpnajgjiaaOpen
import Derived.Test.YtlakklpnajgjiaaAwake
namespace Go.Proofs.Ytlakklpnajgjiaa.regionPairs
open Go.ChangeShapes Go.WideShapes Go.ChangeAt Go.RowKit Num
set_option linter.unusedVariables false
set_option linter.unusedSimpArgs false

theorem of_few {l : List R} (h : (fewB l && refRightB l) = true) : l.length ≤ 20 ∧ Reg l ∧ ∀ r ∈ l, Ok r := by
  rw [Bool.and_eq_true] at h
  have h1 := h.1
  unfold fewB at h1
  rw [Bool.and_eq_true] at h1
  exact ⟨of_decide_eq_true h1.1, of_refRight h.2⟩

set_option maxRecDepth 100000 in
set_option maxHeartbeats 4000000 in
theorem walk (ao : Option Addr) (n c b off : Nat) (l : List R) (ao' : Option Addr) (n' c' b' off' : Nat) (l' : List R) (w : World) (h : Vw w ao n c b off l) (h' : Vw w ao' n' c' b' off' l') :
    Calls Try.prog 4 #[.slice ao n c, .slice ao' n' c'] w fun e w' => e = .returned (.bool true) ∧ Below w.heap.size w w' := by
  have H := hid (And.intro h h')
  have HB := hid (Below.refl w.heap.size w)
  clear h h'
  rcases hR : (fewB l && refRightB l) with _ | _
  · have HR := hid hR
    clear hR
    go_enter Try.func4, Try.ntmps4
    go_wp2_with (first
      | (go_at_call 8; with_reducible refine Calls.mono (awake_any _) ?_; rintro e wc ⟨rfl, hb⟩; replace HB := hid (step0 HB.out hb); clear hb)
      | (go_at_call 15; with_reducible refine Calls.mono (isRight_any ao n c b off l wc (H.out.1.below HB.out)) ?_; rintro e wc ⟨rfl, hb⟩; rw [HR.out]; replace HB := hid (step0 HB.out hb); clear hb))
    go_ret
    exact ⟨rfl, HB.out⟩
  rcases hR' : (fewB l' && refRightB l') with _ | _
  · have HR := hid (And.intro hR hR')
    clear hR hR'
    go_enter Try.func4, Try.ntmps4
    go_wp2_with (first
      | (go_at_call 8; with_reducible refine Calls.mono (awake_any _) ?_; rintro e wc ⟨rfl, hb⟩; replace HB := hid (step0 HB.out hb); clear hb)
      | (go_at_call 15; with_reducible refine Calls.mono (isRight_any ao n c b off l wc (H.out.1.below HB.out)) ?_; rintro e wc ⟨rfl, hb⟩; rw [HR.out.1]; replace HB := hid (step0 HB.out hb); have D1 := hid trivial; clear hb)
      | (go_at_call 15; with_reducible refine Calls.mono (isRight_any ao' n' c' b' off' l' wc (H.out.2.below HB.out)) ?_; rintro e wc ⟨rfl, hb⟩; rw [HR.out.2]; replace HB := hid (step0 HB.out hb); clear hb))
    go_ret
    exact ⟨rfl, HB.out⟩
  have HR := hid (And.intro hR hR')
  obtain ⟨l20, rl, okl⟩ := of_few hR
  obtain ⟨l20', rl', okl'⟩ := of_few hR'
  have HJ := hid (And.intro (comb_sets fits_or rl rl') (And.intro (comb_sets fits_and rl rl') (comb_sets fits_cut rl rl')))
  have hN : l.length + l'.length ≤ 900000 := by omega
  have hN' : l.length + l'.length ≤ 1000 := by omega
  clear hR hR' rl rl' okl okl'
  go_enter Try.func4, Try.ntmps4
  go_wp2_with (first
    | (go_at_call 8; with_reducible refine Calls.mono (awake_any _) ?_; rintro e wc ⟨rfl, hb⟩; replace HB := hid (step0 HB.out hb); clear hb)
    | (go_at_call 15; with_reducible refine Calls.mono (isRight_any ao n c b off l wc (H.out.1.below HB.out)) ?_; rintro e wc ⟨rfl, hb⟩; rw [HR.out.1]; replace HB := hid (step0 HB.out hb); clear hb)
    | (go_at_call 15; with_reducible refine Calls.mono (isRight_any ao' n' c' b' off' l' wc (H.out.2.below HB.out)) ?_; rintro e wc ⟨rfl, hb⟩; rw [HR.out.2]; replace HB := hid (step0 HB.out hb); clear hb)
    | (go_at_call 16; with_reducible refine Calls.mono (join_any wc ao n c b off l ao' n' c' b' off' l' (H.out.1.below HB.out) (H.out.2.below HB.out) hN _ HJ.out.1) ?_; rintro e wc ⟨hr, hb⟩; obtain ⟨ao1, n1, c1, b1, off1, rfl, hO⟩ := retO hr; have HX := hid hO; replace HB := hid (step0 HB.out hb); clear hb hr hO)
    | (go_at_call 18; with_reducible refine Calls.mono (meet_any wc ao n c b off l ao' n' c' b' off' l' (H.out.1.below HB.out) (H.out.2.below HB.out) hN _ HJ.out.2.1) ?_; rintro e wc ⟨hr, hb⟩; obtain ⟨ao1, n1, c1, b1, off1, rfl, hO⟩ := retO hr; have HX := hid hO; replace HB := hid (step0 HB.out hb); clear hb hr hO)
    | (go_at_call 19; with_reducible refine Calls.mono (cut_any wc ao n c b off l ao' n' c' b' off' l' (H.out.1.below HB.out) (H.out.2.below HB.out) hN _ HJ.out.2.2) ?_; rintro e wc ⟨hr, hb⟩; obtain ⟨ao1, n1, c1, b1, off1, rfl, hO⟩ := retO hr; have HX := hid hO; replace HB := hid (step0 HB.out hb); clear hb hr hO)
    | (go_at_call 17; with_reducible refine Calls.mono (sets_any 0 orF (.inl ⟨rfl, rfl⟩) wc ao n c b off l ao' n' c' b' off' l' (H.out.1.below HB.out) (H.out.2.below HB.out) hN') ?_; rintro e wc ⟨hr, hb⟩; obtain ⟨ao2, n2, c2, b2, off2, rfl, hO⟩ := retO hr; have HY := hid hO; replace HX := hid (HX.out.below hb); replace HB := hid (step0 HB.out hb); clear hb hr hO)
    | (go_at_call 17; with_reducible refine Calls.mono (sets_any 1 andF (.inr (.inl ⟨rfl, rfl⟩)) wc ao n c b off l ao' n' c' b' off' l' (H.out.1.below HB.out) (H.out.2.below HB.out) hN') ?_; rintro e wc ⟨hr, hb⟩; obtain ⟨ao2, n2, c2, b2, off2, rfl, hO⟩ := retO hr; have HY := hid hO; replace HX := hid (HX.out.below hb); replace HB := hid (step0 HB.out hb); clear hb hr hO)
    | (go_at_call 17; with_reducible refine Calls.mono (sets_any 2 cutF (.inr (.inr ⟨rfl, rfl⟩)) wc ao n c b off l ao' n' c' b' off' l' (H.out.1.below HB.out) (H.out.2.below HB.out) hN') ?_; rintro e wc ⟨hr, hb⟩; obtain ⟨ao2, n2, c2, b2, off2, rfl, hO⟩ := retO hr; have HY := hid hO; replace HX := hid (HX.out.below hb); replace HB := hid (step0 HB.out hb); clear hb hr hO)
    | (go_at_call 11; with_reducible refine Calls.mono (same_any ao1 n1 c1 b1 off1 _ ao2 n2 c2 b2 off2 _ wc HX.out.v HY.out.v) ?_; rintro e wc ⟨rfl, hb⟩; rw [decide_eq_true rfl]; replace HB := hid (step0 HB.out hb); clear hb HX HY))
  go_ret
  exact ⟨rfl, HB.out⟩

theorem own : ownKnob Try.prog.godebug = none := by kernel_rfl

set_option maxRecDepth 100000 in
theorem lifted (os : Os) (started : os.Started) (H : Type) (enc : TypeId × Value → H) :
    ReturnsInHanded {} Try.checked os 4 .any (Rows.regionPairsSpec.pre6 enc Try.prog Try.f4 Rows.regionPairsRow.domain false) (Rows.regionPairsSpec.post enc Try.prog Try.f4 false true false false) := by
  refine returnsInHanded_of_change (C := Try.checked) own started (by kernel_rfl) Try.func4
    (ChangeSpec.witness6 (enc := enc) (C := Try.checked) false ⟨#[], #[.slice none 0 0, .slice none 0 0], []⟩ 8 (by kernel_rfl) (by kernel_rfl) (by kernel_rfl) (by kernel_rfl)) ?_
  intro W base args ds gs before hval0 hW hcnd _
  have hval : ∀ (j : Nat) t v, Try.f4.params[j]? = some t → args[j]? = some v → Value.okWide Try.prog W .any base t v := hval0
  have hW' := hW
  obtain ⟨p, q, hA0, hV, rfl, hfz, hnd⟩ := hW
  have hA : DataW.TrodAll enc Try.prog W 0 (fun _ => true) true Try.f4.params.toList args.toList ds p := hA0
  rw [Try.params4] at hA hval
  obtain ⟨v0, vs0, d0, ds0, p0, q0, hargs, rfl, rfl, h0, r0⟩ := trodAll_cons hA
  obtain ⟨v1, vs1, d1, ds1, p1, q1, rfl, rfl, rfl, h1, r1⟩ := trodAll_cons r0
  obtain ⟨rfl, rfl, rfl⟩ := trodAll_nil r1
  obtain rfl : args = #[v0, v1] := by cases args; simp_all
  obtain ⟨rfl, rfl⟩ := trodVars_none hV
  obtain ⟨ao, n, c, b, off, l, rfl, hv⟩ := open_rects Try.underlying27 (hval 0 27 v0 rfl rfl) h0
  obtain ⟨ao', n', c', b', off', l', rfl, hv'⟩ := open_rects Try.underlying27 (hval 1 27 v1 rfl rfl) h1
  clear hA0 hval0
  simp only [List.append_nil] at hW'
  have hlt : ∀ x ∈ p0 ++ p1, x.block < W.heap.size := fun x hx => by simpa using hW'.lt x (by simpa using hx)
  refine (walk ao n c b off l ao' n' c' b' off' l' W hv hv').mono fun e W' ⟨he, hg⟩ => ?_
  subst he
  have t0 := Below.trod laidOut (by kernel_rfl) (of_decide_eq_true (by kernel_rfl)) h0 hg (fun x hx => hlt x (List.mem_append_left _ hx))
  have t1 := Below.trod laidOut (by kernel_rfl) (of_decide_eq_true (by kernel_rfl)) h1 hg (fun x hx => hlt x (List.mem_append_right _ hx))
  exact ⟨_, rfl, ⟨_, _, _, _, _, _, hW', (trodAll_cons_mk (shut_bool Try.underlying4 _) trodAll_mk0), (trodAll_cons_mk t0 (trodAll_cons_mk t1 trodAll_mk0)), rfl, hg.frame _, fun h => by cases h⟩⟩

theorem over : Rows.regionPairsRow.holds Try.pinned (OpenSpec.ofChange Rows.regionPairsSpec) :=
  OpenClaim.holds_of_wide 4 Try.f4 rfl rfl rfl rfl rfl rfl rfl ⟨rfl, rfl, rfl, rfl, rfl⟩ rfl rfl rfl rfl rfl (by kernel_rfl) Try.func4 (by kernel_rfl)
    (of_decide_eq_true (by kernel_rfl)) (by unfold Func.isWrapper; first | (rw [if_pos (by decide +kernel)]; kernel_rfl) | (rw [if_neg (by decide +kernel)]; exact ⟨rfl, rfl⟩))
    (fun os started H enc _ => lifted os started H enc)

theorem proved : Rows.RegionPairsSaid := over
#print axioms proved
end Go.Proofs.Ytlakklpnajgjiaa.regionPairs
