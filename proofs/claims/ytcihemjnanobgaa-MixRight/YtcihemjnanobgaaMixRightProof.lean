/- For every two right pixels, every operator, every mode and every opacity: what they are composed, blended and laid on to is right; no condition. -/
import Derived.Test.YtcihemjnanobgaaRows
import Derived.WalkKit
import Derived.ProofKit
import Derived.OpenShut
import Derived.Test.YtcihemjnanobgaaOpen
import Derived.Test.YtcihemjnanobgaaAwake
namespace Go.Proofs.Ytcihemjnanobgaa.mixRight
open Go.ChangeShapes Go.WideShapes Go.ChangeAt Go.RowKit Num
set_option linter.unusedVariables false
set_option linter.unusedSimpArgs false

theorem rem6 {n : Int} (h : 0 ≤ n ∧ n ≤ 255) : 0 ≤ n % 6 ∧ n % 6 ≤ 5 := by omega
theorem rem7 {n : Int} (h : 0 ≤ n ∧ n ≤ 255) : 0 ≤ n % 7 ∧ n % 7 ≤ 6 := by omega
theorem wr6 {n : Int} (h : 0 ≤ n ∧ n ≤ 255) : IntKind.i64.wrap (n.tmod 6) = n % 6 := by rw [Int.tmod_eq_emod_of_nonneg h.1, IntKind.wrap_i64]; omega
theorem wr7 {n : Int} (h : 0 ≤ n ∧ n ≤ 255) : IntKind.i64.wrap (n.tmod 7) = n % 7 := by rw [Int.tmod_eq_emod_of_nonneg h.1, IntKind.wrap_i64]; omega
theorem rights {r g b a p q s c : Int} (h : (rightB r g b a && rightB p q s c) = true) : (r ≤ a ∧ g ≤ a ∧ b ≤ a) ∧ (p ≤ c ∧ q ≤ c ∧ s ≤ c) := by
  simp only [rightB, Bool.and_eq_true, decide_eq_true_eq] at h; omega

set_option maxHeartbeats 2000000 in
theorem walk (k l r g b a p q s c : Int) (w : World) (hk : 0 ≤ k ∧ k ≤ 255) (hl : 0 ≤ l ∧ l ≤ 255) (hr : 0 ≤ r ∧ r ≤ 255) (hg : 0 ≤ g ∧ g ≤ 255) (hb : 0 ≤ b ∧ b ≤ 255) (ha : 0 ≤ a ∧ a ≤ 255) (hp : 0 ≤ p ∧ p ≤ 255) (hq : 0 ≤ q ∧ q ≤ 255) (hs : 0 ≤ s ∧ s ≤ 255) (hc : 0 ≤ c ∧ c ≤ 255) :
    Calls Try.prog 5 #[.int .u8 k, .int .u8 l, .agg #[.int .u8 r, .int .u8 g, .int .u8 b, .int .u8 a], .agg #[.int .u8 p, .int .u8 q, .int .u8 s, .int .u8 c]] w fun e w' => e = .returned (.bool true) ∧ Below w.heap.size w w' := by
  have hE := eqPx
  have hS : Sz w w.heap.size (w.heap.size + 1) (.int .u8 r) (.int .u8 g) (.int .u8 b) (.int .u8 a) (.int .u8 p) (.int .u8 q) (.int .u8 s) (.int .u8 c) ((w.alloc (.cells #[.int .u8 r, .int .u8 g, .int .u8 b, .int .u8 a] 23)).alloc (.cells #[.int .u8 p, .int .u8 q, .int .u8 s, .int .u8 c] 23)) := by
    have g1 : Has4 ((w.alloc (.cells #[.int .u8 r, .int .u8 g, .int .u8 b, .int .u8 a] 23)).alloc (.cells #[.int .u8 p, .int .u8 q, .int .u8 s, .int .u8 c] 23)) w.heap.size (.int .u8 r) (.int .u8 g) (.int .u8 b) (.int .u8 a) := (Has4.new rfl _ _ _ _ _).alloc _
    have g2 : Has4 ((w.alloc (.cells #[.int .u8 r, .int .u8 g, .int .u8 b, .int .u8 a] 23)).alloc (.cells #[.int .u8 p, .int .u8 q, .int .u8 s, .int .u8 c] 23)) (w.heap.size + 1) (.int .u8 p) (.int .u8 q) (.int .u8 s) (.int .u8 c) := Has4.new (by simp) _ _ _ _ _
    exact ⟨⟨g1.c0, g1.c1, g1.c2, g1.c3⟩, ⟨g2.c0, g2.c1, g2.c2, g2.c3⟩, show Below w.heap.size w _ by go_grown⟩
  rcases hR : (rightB r g b a && rightB p q s c) with _ | _
  · skip
    go_enter Try.func5, Try.ntmps5
    go_wp2_with (first | (go_at_call 9; with_reducible refine Calls.mono (both_any _ _ _ _ _ _ _ _ _ ‹_› ‹_› ‹_› ‹_› ‹_› ‹_› ‹_› ‹_›) ?_; rintro e w' ⟨rfl, hb⟩; replace hS := sz_below hS hb; clear hb; obtain ⟨⟨p0, p1, p2, p3⟩, ⟨q0, q1, q2, q3⟩, hB⟩ := id hS) | (go_at_call 10; with_reducible refine Calls.mono (awake_any _) ?_; rintro e w' ⟨rfl, hb⟩; replace hS := sz_below hS hb; clear hb; obtain ⟨⟨p0, p1, p2, p3⟩, ⟨q0, q1, q2, q3⟩, hB⟩ := id hS))
    go_ret
    exact ⟨rfl, sz_out hS⟩
  have ho := rem6 hk
  have hw := wr6 hk
  have ho7 := rem7 hk
  have hw7 := wr7 hk
  obtain ⟨⟨e1, e2, e3⟩, ⟨e4, e5, e6⟩⟩ := rights hR
  have d00 : 0 ≤ (cmp (k % 6) r p a c) ∧ (cmp (k % 6) r p a c) ≤ 255 := cmp_bd _ _ _ _ _
  have d01 : 0 ≤ (cmp (k % 6) g q a c) ∧ (cmp (k % 6) g q a c) ≤ 255 := cmp_bd _ _ _ _ _
  have d02 : 0 ≤ (cmp (k % 6) b s a c) ∧ (cmp (k % 6) b s a c) ≤ 255 := cmp_bd _ _ _ _ _
  have d03 : 0 ≤ (cmp (k % 6) a c a c) ∧ (cmp (k % 6) a c a c) ≤ 255 := cmp_bd _ _ _ _ _
  have y0 : rightB (cmp (k % 6) r p a c) (cmp (k % 6) g q a c) (cmp (k % 6) b s a c) (cmp (k % 6) a c a c) = true := right_yes (cmp_right ⟨hr.1, e1⟩ ⟨hp.1, e4⟩ ha.2 hc.2) (cmp_right ⟨hg.1, e2⟩ ⟨hq.1, e5⟩ ha.2 hc.2) (cmp_right ⟨hb.1, e3⟩ ⟨hs.1, e6⟩ ha.2 hc.2)
  have d10 : 0 ≤ (bl (k % 7) r p a c) ∧ (bl (k % 7) r p a c) ≤ 255 := bl_bd _ _ _ _ _
  have d11 : 0 ≤ (bl (k % 7) g q a c) ∧ (bl (k % 7) g q a c) ≤ 255 := bl_bd _ _ _ _ _
  have d12 : 0 ≤ (bl (k % 7) b s a c) ∧ (bl (k % 7) b s a c) ≤ 255 := bl_bd _ _ _ _ _
  have d13 : 0 ≤ (ba (k % 7) a c) ∧ (ba (k % 7) a c) ≤ 255 := ba_bd _ _ _
  have y1 : rightB (bl (k % 7) r p a c) (bl (k % 7) g q a c) (bl (k % 7) b s a c) (ba (k % 7) a c) = true := right_yes (bl_right ⟨hr.1, e1⟩ ⟨hp.1, e4⟩ ha.2 hc.2) (bl_right ⟨hg.1, e2⟩ ⟨hq.1, e5⟩ ha.2 hc.2) (bl_right ⟨hb.1, e3⟩ ⟨hs.1, e6⟩ ha.2 hc.2)
  have d20 : 0 ≤ (bl (k % 7) (mulI r l) p (mulI a l) c) ∧ (bl (k % 7) (mulI r l) p (mulI a l) c) ≤ 255 := bl_bd _ _ _ _ _
  have d21 : 0 ≤ (bl (k % 7) (mulI g l) q (mulI a l) c) ∧ (bl (k % 7) (mulI g l) q (mulI a l) c) ≤ 255 := bl_bd _ _ _ _ _
  have d22 : 0 ≤ (bl (k % 7) (mulI b l) s (mulI a l) c) ∧ (bl (k % 7) (mulI b l) s (mulI a l) c) ≤ 255 := bl_bd _ _ _ _ _
  have d23 : 0 ≤ (ba (k % 7) (mulI a l) c) ∧ (ba (k % 7) (mulI a l) c) ≤ 255 := ba_bd _ _ _
  have y2 : rightB (bl (k % 7) (mulI r l) p (mulI a l) c) (bl (k % 7) (mulI g l) q (mulI a l) c) (bl (k % 7) (mulI b l) s (mulI a l) c) (ba (k % 7) (mulI a l) c) = true := right_yes (bl_right ⟨(mul_bd hr hl).1, mul_mono e1 hl.1⟩ ⟨hp.1, e4⟩ (mul_bd ha hl).2 hc.2) (bl_right ⟨(mul_bd hg hl).1, mul_mono e2 hl.1⟩ ⟨hq.1, e5⟩ (mul_bd ha hl).2 hc.2) (bl_right ⟨(mul_bd hb hl).1, mul_mono e3 hl.1⟩ ⟨hs.1, e6⟩ (mul_bd ha hl).2 hc.2)
  clear e1 e2 e3 e4 e5 e6
  go_enter Try.func5, Try.ntmps5
  go_wp2_with (first | (go_at_call 9; with_reducible refine Calls.mono (both_any _ _ _ _ _ _ _ _ _ ‹_› ‹_› ‹_› ‹_› ‹_› ‹_› ‹_› ‹_›) ?_; rintro e w' ⟨rfl, hb⟩; replace hS := sz_below hS hb; clear hb; obtain ⟨⟨p0, p1, p2, p3⟩, ⟨q0, q1, q2, q3⟩, hB⟩ := id hS) | (go_at_call 10; with_reducible refine Calls.mono (awake_any _) ?_; rintro e w' ⟨rfl, hb⟩; replace hS := sz_below hS hb; clear hb; obtain ⟨⟨p0, p1, p2, p3⟩, ⟨q0, q1, q2, q3⟩, hB⟩ := id hS) | (go_at_call 11; with_reducible refine Calls.mono (comp_any _ _ _ _ _ _ _ _ _ _ ‹_› ‹_› ‹_› ‹_› ‹_› ‹_› ‹_› ‹_› ‹_›) ?_; rintro e w' ⟨rfl, hb⟩; replace hS := sz_below hS hb; clear hb; obtain ⟨⟨p0, p1, p2, p3⟩, ⟨q0, q1, q2, q3⟩, hB⟩ := id hS) | (go_at_call 13; with_reducible refine Calls.mono (blend_any _ _ _ _ _ _ _ _ _ _ ‹_› ‹_› ‹_› ‹_› ‹_› ‹_› ‹_› ‹_› ‹_›) ?_; rintro e w' ⟨rfl, hb⟩; replace hS := sz_below hS hb; clear hb; obtain ⟨⟨p0, p1, p2, p3⟩, ⟨q0, q1, q2, q3⟩, hB⟩ := id hS) | (go_at_call 15; with_reducible refine Calls.mono (onto_any _ _ _ _ _ _ _ _ _ _ _ ‹_› ‹_› ‹_› ‹_› ‹_› ‹_› ‹_› ‹_› ‹_› ‹_›) ?_; rintro e w' ⟨rfl, hb⟩; replace hS := sz_below hS hb; clear hb; obtain ⟨⟨p0, p1, p2, p3⟩, ⟨q0, q1, q2, q3⟩, hB⟩ := id hS) | (go_at_call 17; with_reducible refine Calls.mono (right_b _ _ _ _ _ ‹_› ‹_› ‹_› ‹_›) ?_; rintro e w' ⟨rfl, hb⟩; replace hS := sz_below hS hb; clear hb; obtain ⟨⟨p0, p1, p2, p3⟩, ⟨q0, q1, q2, q3⟩, hB⟩ := id hS))
  go_ret
  exact ⟨rfl, sz_out hS⟩

theorem own : ownKnob Try.prog.godebug = none := by kernel_rfl
theorem cells5 : Try.prog.cellsOf 5 = 1 := by kernel_rfl
theorem cells23 : Try.prog.cellsOf 23 = 4 := by kernel_rfl

set_option maxHeartbeats 400000 in
set_option maxRecDepth 100000 in
theorem lifted (os : Os) (started : os.Started) (H : Type) (enc : TypeId × Value → H) :
    ReturnsInHanded {} Try.checked os 5 .any (Rows.mixRightSpec.pre6 enc Try.prog Try.f5 Rows.mixRightRow.domain false) (Rows.mixRightSpec.post enc Try.prog Try.f5 false true false false) := by
  refine returnsInHanded_of_change (C := Try.checked) own started (by kernel_rfl) Try.func5
    (ChangeSpec.witness6 (enc := enc) (C := Try.checked) false ⟨#[], #[.int .u8 0, .int .u8 0, .agg #[.int .u8 0, .int .u8 0, .int .u8 0, .int .u8 0], .agg #[.int .u8 0, .int .u8 0, .int .u8 0, .int .u8 0]], []⟩ 8 (by kernel_rfl) (by kernel_rfl) (by kernel_rfl) (by kernel_rfl)) ?_
  intro W base args ds gs before hval0 hW hcnd _
  have hval : ∀ (j : Nat) t v, Try.f5.params[j]? = some t → args[j]? = some v → Value.okWide Try.prog W .any base t v := hval0
  have hW' := hW
  obtain ⟨p, q, hA0, hV, rfl, hfz, hnd⟩ := hW
  have hA : DataW.TrodAll enc Try.prog W 0 (fun _ => true) true Try.f5.params.toList args.toList ds p := hA0
  rw [Try.params5] at hA hval
  obtain ⟨v0, vs0, d0, ds0, p0, q0, hargs, rfl, rfl, h0, r0⟩ := trodAll_cons hA
  obtain ⟨v1, vs1, d1, ds1, p1, q1, rfl, rfl, rfl, h1, r1⟩ := trodAll_cons r0
  obtain ⟨v2, vs2, d2, ds2, p2, q2, rfl, rfl, rfl, h2, r2⟩ := trodAll_cons r1
  obtain ⟨v3, vs3, d3, ds3, p3, q3, rfl, rfl, rfl, h3, r3⟩ := trodAll_cons r2
  obtain ⟨rfl, rfl, rfl⟩ := trodAll_nil r3
  obtain rfl : args = #[v0, v1, v2, v3] := by cases args; simp_all
  obtain ⟨rfl, rfl⟩ := trodVars_none hV
  obtain ⟨k0, rfl, rfl, rfl, u0⟩ := open_int Try.underlying5 (hval 0 5 v0 rfl rfl) h0
  obtain ⟨k1, rfl, rfl, rfl, u1⟩ := open_int Try.underlying5 (hval 1 5 v1 rfl rfl) h1
  obtain ⟨x20, x21, x22, x23, rfl, rfl, rfl, u20, u21, u22, u23⟩ := open_px Try.underlying23 Try.underlying5 cells23 cells5 (hval 2 23 v2 rfl rfl) h2
  obtain ⟨x30, x31, x32, x33, rfl, rfl, rfl, u30, u31, u32, u33⟩ := open_px Try.underlying23 Try.underlying5 cells23 cells5 (hval 3 23 v3 rfl rfl) h3
  clear hA0 hval0
  simp only [List.append_nil] at hW'
  refine (walk k0 k1 x20 x21 x22 x23 x30 x31 x32 x33 W (bounds_u8 u0) (bounds_u8 u1) (bounds_u8 u20) (bounds_u8 u21) (bounds_u8 u22) (bounds_u8 u23) (bounds_u8 u30) (bounds_u8 u31) (bounds_u8 u32) (bounds_u8 u33)).mono fun e W' ⟨he, hg⟩ => ?_
  subst he
  exact ⟨_, rfl, ⟨_, _, _, [], [], [], hW', (trodAll_cons_mk (shut_bool Try.underlying4 _) trodAll_mk0), (trodAll_cons_mk (shut_int Try.underlying5 u0) (trodAll_cons_mk (shut_int Try.underlying5 u1) (trodAll_cons_mk (shut_px Try.underlying23 Try.underlying5 cells23 cells5 u20 u21 u22 u23) (trodAll_cons_mk (shut_px Try.underlying23 Try.underlying5 cells23 cells5 u30 u31 u32 u33) trodAll_mk0)))), rfl, hg.frame _, fun h => by cases h⟩⟩

theorem over : Rows.mixRightRow.holds Try.pinned (OpenSpec.ofChange Rows.mixRightSpec) :=
  OpenClaim.holds_of_wide 5 Try.f5 rfl rfl rfl rfl rfl rfl rfl ⟨rfl, rfl, rfl, rfl, rfl⟩ rfl rfl rfl rfl rfl (by kernel_rfl) Try.func5 (by kernel_rfl)
    (of_decide_eq_true (by kernel_rfl)) (by unfold Func.isWrapper; first | (rw [if_pos (by decide +kernel)]; kernel_rfl) | (rw [if_neg (by decide +kernel)]; exact ⟨rfl, rfl⟩))
    (fun os started H enc _ => lifted os started H enc)

theorem proved : Rows.MixRightSaid := over
#print axioms proved
end Go.Proofs.Ytcihemjnanobgaa.mixRight
