/- Of whatever rectangles the region is the document's, and whether they are a right region is said as the document says it; no condition. -/
import Derived.Test.YtlakklpnajgjiaaRows
import Derived.WalkKit
import Derived.ProofKit
import Derived.OpenShut
import Derived.Test.YtlakklpnajgjiaaOpen
import Derived.Test.YtlakklpnajgjiaaAwake
import Derived.Test.YtlakklpnajgjiaaRightNum
namespace Go.Proofs.Ytlakklpnajgjiaa.regionOfs
open Go.ChangeShapes Go.WideShapes Go.ChangeAt Go.RowKit Num
set_option linter.unusedVariables false
set_option linter.unusedSimpArgs false

set_option maxRecDepth 100000 in
set_option maxHeartbeats 4000000 in
theorem walk (ao : Option Addr) (n c b off : Nat) (l : List R) (w : World) (h : Vw w ao n c b off l) :
    Calls Try.prog 3 #[.slice ao n c] w fun e w' => e = .returned (.bool true) ∧ Below w.heap.size w w' := by
  have hn := vw_len h
  have hn9 := vw_small h
  have H := hid h
  have HB := hid (Below.refl w.heap.size w)
  clear h
  by_cases h20 : 20 < n
  · have hz : (20 : Int) < (n : Int) := by omega
    go_enter Try.func3, Try.ntmps3
    go_wp2_with (first
      | (go_at_call 8; with_reducible refine Calls.mono (awake_any _) ?_; rintro e wc ⟨rfl, hb⟩; replace HB := hid (step0 HB.out hb); clear hb))
    go_ret
    exact ⟨rfl, HB.out⟩
  have hz : ¬ ((20 : Int) < (n : Int)) := by omega
  have hl20 : l.length ≤ 20 := by omega
  rcases hF : fewB l with _ | _
  · have HR := hid (And.intro hF (rightG_few hl20 hF))
    clear hF hn
    go_enter Try.func3, Try.ntmps3
    go_wp2_with (first
      | (go_at_call 8; with_reducible refine Calls.mono (awake_any _) ?_; rintro e wc ⟨rfl, hb⟩; replace HB := hid (step0 HB.out hb); clear hb)
      | (go_at_call 9; with_reducible refine Calls.mono (few_any ao n c b off l w H.out) ?_; rintro e wc ⟨rfl, hb⟩; rw [HR.out.1]; replace HB := hid (step0 HB.out hb); clear hb)
      | (go_at_call 10; with_reducible refine Calls.mono (right_any ao n c b off l wc (H.out.below HB.out)) ?_; rintro e wc ⟨rfl, hb⟩; rw [HR.out.2]; replace HB := hid (step0 HB.out hb); clear hb))
    go_ret
    exact ⟨rfl, HB.out⟩
  have hok : ∀ r ∈ l, Ok r := fun r hr => by
    unfold fewB at hF
    rw [Bool.and_eq_true] at hF
    exact of_right (List.all_eq_true.1 hF.2 r hr)
  have HOK := hid hok
  have hN : l.length ≤ 1000 := by omega
  have hN' : l.length ≤ 100 := by omega
  have hG := rightG_ref l hok
  rcases hv : refRightB l with _ | _
  all_goals
    rw [hv] at hG
    have HR := hid (And.intro hF (And.intro hG hv))
    clear hF hG hv hok hn
    go_enter Try.func3, Try.ntmps3
    go_wp2_with (first
      | (go_at_call 8; with_reducible refine Calls.mono (awake_any _) ?_; rintro e wc ⟨rfl, hb⟩; replace HB := hid (step0 HB.out hb); clear hb)
      | (go_at_call 9; with_reducible refine Calls.mono (few_any ao n c b off l w H.out) ?_; rintro e wc ⟨rfl, hb⟩; rw [HR.out.1]; replace HB := hid (step0 HB.out hb); clear hb)
      | (go_at_call 12; with_reducible refine Calls.mono (of_any 101 l ao n c b off wc (H.out.below HB.out) (Nat.lt_succ_of_le hN') hN' HOK.out) ?_; rintro e wc ⟨hr, hb⟩; obtain ⟨ao1, n1, c1, b1, off1, rfl, hO⟩ := retO hr; have HX := hid hO; replace HB := hid (step0 HB.out hb); clear hb hr hO)
      | (go_at_call 13; with_reducible refine Calls.mono (refOf_any wc ao n c b off l (H.out.below HB.out) hN) ?_; rintro e wc ⟨hr, hb⟩; obtain ⟨ao2, n2, c2, b2, off2, rfl, hO⟩ := retO hr; have HY := hid hO; replace HX := hid (HX.out.below hb); replace HB := hid (step0 HB.out hb); clear hb hr hO)
      | (go_at_call 11; with_reducible refine Calls.mono (same_any ao1 n1 c1 b1 off1 _ ao2 n2 c2 b2 off2 _ wc HX.out.v HY.out.v) ?_; rintro e wc ⟨rfl, hb⟩; rw [decide_eq_true rfl]; replace HB := hid (step0 HB.out hb); clear hb HX HY)
      | (go_at_call 10; with_reducible refine Calls.mono (right_any ao n c b off l wc (H.out.below HB.out)) ?_; rintro e wc ⟨rfl, hb⟩; rw [HR.out.2.1]; replace HB := hid (step0 HB.out hb); clear hb)
      | (go_at_call 14; with_reducible refine Calls.mono (refRight_any ao n c b off l wc (H.out.below HB.out) hN) ?_; rintro e wc ⟨rfl, hb⟩; rw [HR.out.2.2]; replace HB := hid (step0 HB.out hb); clear hb))
    go_ret
    exact ⟨rfl, HB.out⟩

theorem own : ownKnob Try.prog.godebug = none := by kernel_rfl

set_option maxRecDepth 100000 in
theorem lifted (os : Os) (started : os.Started) (H : Type) (enc : TypeId × Value → H) :
    ReturnsInHanded {} Try.checked os 3 .any (Rows.regionOfsSpec.pre6 enc Try.prog Try.f3 Rows.regionOfsRow.domain false) (Rows.regionOfsSpec.post enc Try.prog Try.f3 false true false false) := by
  refine returnsInHanded_of_change (C := Try.checked) own started (by kernel_rfl) Try.func3
    (ChangeSpec.witness6 (enc := enc) (C := Try.checked) false ⟨#[], #[.slice none 0 0], []⟩ 8 (by kernel_rfl) (by kernel_rfl) (by kernel_rfl) (by kernel_rfl)) ?_
  intro W base args ds gs before hval0 hW hcnd _
  have hval : ∀ (j : Nat) t v, Try.f3.params[j]? = some t → args[j]? = some v → Value.okWide Try.prog W .any base t v := hval0
  have hW' := hW
  obtain ⟨p, q, hA0, hV, rfl, hfz, hnd⟩ := hW
  have hA : DataW.TrodAll enc Try.prog W 0 (fun _ => true) true Try.f3.params.toList args.toList ds p := hA0
  rw [Try.params3] at hA hval
  obtain ⟨v0, vs0, d0, ds0, p0, q0, hargs, rfl, rfl, h0, r0⟩ := trodAll_cons hA
  obtain ⟨rfl, rfl, rfl⟩ := trodAll_nil r0
  obtain rfl : args = #[v0] := by cases args; simp_all
  obtain ⟨rfl, rfl⟩ := trodVars_none hV
  obtain ⟨ao, n, c, b, off, l, rfl, hv⟩ := open_rects Try.underlying22 (hval 0 22 v0 rfl rfl) h0
  clear hA0 hval0
  simp only [List.append_nil] at hW'
  have hlt : ∀ x ∈ p0, x.block < W.heap.size := fun x hx => by simpa using hW'.lt x (by simpa using hx)
  refine (walk ao n c b off l W hv).mono fun e W' ⟨he, hg⟩ => ?_
  subst he
  have t0 := Below.trod laidOut (by kernel_rfl) (of_decide_eq_true (by kernel_rfl)) h0 hg hlt
  exact ⟨_, rfl, ⟨_, _, _, _, _, _, hW', (trodAll_cons_mk (shut_bool Try.underlying4 _) trodAll_mk0), (trodAll_cons_mk t0 trodAll_mk0), rfl, hg.frame _, fun h => by cases h⟩⟩

theorem over : Rows.regionOfsRow.holds Try.pinned (OpenSpec.ofChange Rows.regionOfsSpec) :=
  OpenClaim.holds_of_wide 3 Try.f3 rfl rfl rfl rfl rfl rfl rfl ⟨rfl, rfl, rfl, rfl, rfl⟩ rfl rfl rfl rfl rfl (by kernel_rfl) Try.func3 (by kernel_rfl)
    (of_decide_eq_true (by kernel_rfl)) (by unfold Func.isWrapper; first | (rw [if_pos (by decide +kernel)]; kernel_rfl) | (rw [if_neg (by decide +kernel)]; exact ⟨rfl, rfl⟩))
    (fun os started H enc _ => lifted os started H enc)

theorem proved : Rows.RegionOfsSaid := over
#print axioms proved
end Go.Proofs.Ytlakklpnajgjiaa.regionOfs
