/- For every two right pixels, and every mode but Normal: which of them is on top means nothing to what they are blended to, nor to what Xor makes of them; no condition. -/
import Derived.Test.YtcihemjnanobgaaRows
import Derived.WalkKit
import Derived.ProofKit
import Derived.OpenShut
import Derived.Test.YtcihemjnanobgaaOpen
import Derived.Test.YtcihemjnanobgaaAwake
namespace Go.Proofs.Ytcihemjnanobgaa.mixTurned
open Go.ChangeShapes Go.WideShapes Go.ChangeAt Go.RowKit Num
set_option linter.unusedVariables false
set_option linter.unusedSimpArgs false

theorem rem6 {n : Int} (h : 0 ≤ n ∧ n ≤ 255) : 0 ≤ n % 6 ∧ n % 6 ≤ 5 := by omega
theorem rem7 {n : Int} (h : 0 ≤ n ∧ n ≤ 255) : 0 ≤ n % 7 ∧ n % 7 ≤ 6 := by omega
theorem wr6 {n : Int} (h : 0 ≤ n ∧ n ≤ 255) : IntKind.i64.wrap (n.tmod 6) = n % 6 := by rw [Int.tmod_eq_emod_of_nonneg h.1, IntKind.wrap_i64]; omega
theorem wr7 {n : Int} (h : 0 ≤ n ∧ n ≤ 255) : IntKind.i64.wrap (n.tmod 7) = n % 7 := by rw [Int.tmod_eq_emod_of_nonneg h.1, IntKind.wrap_i64]; omega

set_option maxHeartbeats 2000000 in
theorem walk (k r g b a p q s c : Int) (w : World) (hk : 0 ≤ k ∧ k ≤ 255) (hr : 0 ≤ r ∧ r ≤ 255) (hg : 0 ≤ g ∧ g ≤ 255) (hb : 0 ≤ b ∧ b ≤ 255) (ha : 0 ≤ a ∧ a ≤ 255) (hp : 0 ≤ p ∧ p ≤ 255) (hq : 0 ≤ q ∧ q ≤ 255) (hs : 0 ≤ s ∧ s ≤ 255) (hc : 0 ≤ c ∧ c ≤ 255) :
    Calls Try.prog 7 #[.int .u8 k, .agg #[.int .u8 r, .int .u8 g, .int .u8 b, .int .u8 a], .agg #[.int .u8 p, .int .u8 q, .int .u8 s, .int .u8 c]] w fun e w' => e = .returned (.bool true) ∧ Below w.heap.size w w' := by
  have hE := eqPx
  have hS : Sz w w.heap.size (w.heap.size + 1) (.int .u8 r) (.int .u8 g) (.int .u8 b) (.int .u8 a) (.int .u8 p) (.int .u8 q) (.int .u8 s) (.int .u8 c) ((w.alloc (.cells #[.int .u8 r, .int .u8 g, .int .u8 b, .int .u8 a] 23)).alloc (.cells #[.int .u8 p, .int .u8 q, .int .u8 s, .int .u8 c] 23)) := by
    have g1 : Has4 ((w.alloc (.cells #[.int .u8 r, .int .u8 g, .int .u8 b, .int .u8 a] 23)).alloc (.cells #[.int .u8 p, .int .u8 q, .int .u8 s, .int .u8 c] 23)) w.heap.size (.int .u8 r) (.int .u8 g) (.int .u8 b) (.int .u8 a) := (Has4.new rfl _ _ _ _ _).alloc _
    have g2 : Has4 ((w.alloc (.cells #[.int .u8 r, .int .u8 g, .int .u8 b, .int .u8 a] 23)).alloc (.cells #[.int .u8 p, .int .u8 q, .int .u8 s, .int .u8 c] 23)) (w.heap.size + 1) (.int .u8 p) (.int .u8 q) (.int .u8 s) (.int .u8 c) := Has4.new (by simp) _ _ _ _ _
    exact ⟨⟨g1.c0, g1.c1, g1.c2, g1.c3⟩, ⟨g2.c0, g2.c1, g2.c2, g2.c3⟩, show Below w.heap.size w _ by go_grown⟩
  rcases hR : (rightB r g b a && rightB p q s c) with _ | _
  · skip
    go_enter Try.func7, Try.ntmps7
    go_wp2_with (first | (go_at_call 9; with_reducible refine Calls.mono (both_any _ _ _ _ _ _ _ _ _ ‹_› ‹_› ‹_› ‹_› ‹_› ‹_› ‹_› ‹_›) ?_; rintro e w' ⟨rfl, hb⟩; replace hS := sz_below hS hb; clear hb; obtain ⟨⟨p0, p1, p2, p3⟩, ⟨q0, q1, q2, q3⟩, hB⟩ := id hS) | (go_at_call 10; with_reducible refine Calls.mono (awake_any _) ?_; rintro e w' ⟨rfl, hb⟩; replace hS := sz_below hS hb; clear hb; obtain ⟨⟨p0, p1, p2, p3⟩, ⟨q0, q1, q2, q3⟩, hB⟩ := id hS))
    go_ret
    exact ⟨rfl, sz_out hS⟩
  have hw := wr6 hk
  have ho : 0 ≤ 1 + k % 6 ∧ 1 + k % 6 ≤ 6 := by omega
  have ho1 : 0 < 1 + k % 6 := by omega
  have h4 : (0:Int) ≤ 4 ∧ (4:Int) ≤ 5 := by decide
  have t0 : (bl (1 + k % 6) p r c a) = (bl (1 + k % 6) r p a c) := bl_turn ho1 _ _ _ _
  have t1 : (bl (1 + k % 6) q g c a) = (bl (1 + k % 6) g q a c) := bl_turn ho1 _ _ _ _
  have t2 : (bl (1 + k % 6) s b c a) = (bl (1 + k % 6) b s a c) := bl_turn ho1 _ _ _ _
  have t3 : (ba (1 + k % 6) c a) = (ba (1 + k % 6) a c) := ba_turn ho1 _ _
  have u0 : (cmp 4 p r c a) = (cmp 4 r p a c) := cmp_turn _ _ _ _
  have u1 : (cmp 4 q g c a) = (cmp 4 g q a c) := cmp_turn _ _ _ _
  have u2 : (cmp 4 s b c a) = (cmp 4 b s a c) := cmp_turn _ _ _ _
  have u3 : (cmp 4 c a c a) = (cmp 4 a c a c) := cmp_turn _ _ _ _
  clear ho1
  go_enter Try.func7, Try.ntmps7
  go_wp2_with (first | (go_at_call 9; with_reducible refine Calls.mono (both_any _ _ _ _ _ _ _ _ _ ‹_› ‹_› ‹_› ‹_› ‹_› ‹_› ‹_› ‹_›) ?_; rintro e w' ⟨rfl, hb⟩; replace hS := sz_below hS hb; clear hb; obtain ⟨⟨p0, p1, p2, p3⟩, ⟨q0, q1, q2, q3⟩, hB⟩ := id hS) | (go_at_call 10; with_reducible refine Calls.mono (awake_any _) ?_; rintro e w' ⟨rfl, hb⟩; replace hS := sz_below hS hb; clear hb; obtain ⟨⟨p0, p1, p2, p3⟩, ⟨q0, q1, q2, q3⟩, hB⟩ := id hS))
  go_region_held3 (fun w' => (w'.cell? ⟨w.heap.size, 0, none⟩ = some (.int .u8 r) ∧ w'.cell? ⟨w.heap.size, 1, none⟩ = some (.int .u8 g) ∧ w'.cell? ⟨w.heap.size, 2, none⟩ = some (.int .u8 b) ∧ w'.cell? ⟨w.heap.size, 3, none⟩ = some (.int .u8 a)) ∧ (w'.cell? ⟨w.heap.size + 1, 0, none⟩ = some (.int .u8 p) ∧ w'.cell? ⟨w.heap.size + 1, 1, none⟩ = some (.int .u8 q) ∧ w'.cell? ⟨w.heap.size + 1, 2, none⟩ = some (.int .u8 s) ∧ w'.cell? ⟨w.heap.size + 1, 3, none⟩ = some (.int .u8 c)) ∧ Kept w w') (repeat (first | with_reducible assumption | with_reducible refine sz_drew ?_ | with_reducible refine sz_below ?_ ‹_›)) ((first | (go_at_call 10; with_reducible refine Calls.mono (awake_any _) ?_; rintro e w1 ⟨rfl, hb⟩) | (go_at_call 13; with_reducible refine Calls.mono (blend_any _ _ _ _ _ _ _ _ _ _ ‹_› ‹_› ‹_› ‹_› ‹_› ‹_› ‹_› ‹_› ‹_›) ?_; rintro e w1 ⟨rfl, hb⟩) | (go_at_call 11; with_reducible refine Calls.mono (comp_any _ _ _ _ _ _ _ _ _ _ ‹_› ‹_› ‹_› ‹_› ‹_› ‹_› ‹_› ‹_› ‹_›) ?_; rintro e w1 ⟨rfl, hb⟩)))
  go_wp2
  go_ret
  exact ⟨rfl, sz_out (p := w.heap.size) (q := w.heap.size + 1) (v0 := .int .u8 r) (v1 := .int .u8 g) (v2 := .int .u8 b) (v3 := .int .u8 a) (u0 := .int .u8 p) (u1 := .int .u8 q) (u2 := .int .u8 s) (u3 := .int .u8 c) (by (repeat (first | with_reducible assumption | with_reducible refine sz_drew ?_ | with_reducible refine sz_below ?_ ‹_›)))⟩

theorem own : ownKnob Try.prog.godebug = none := by kernel_rfl
theorem cells5 : Try.prog.cellsOf 5 = 1 := by kernel_rfl
theorem cells23 : Try.prog.cellsOf 23 = 4 := by kernel_rfl

set_option maxHeartbeats 400000 in
set_option maxRecDepth 100000 in
theorem lifted (os : Os) (started : os.Started) (H : Type) (enc : TypeId × Value → H) :
    ReturnsInHanded {} Try.checked os 7 .any (Rows.mixTurnedSpec.pre6 enc Try.prog Try.f7 Rows.mixTurnedRow.domain false) (Rows.mixTurnedSpec.post enc Try.prog Try.f7 false true false false) := by
  refine returnsInHanded_of_change (C := Try.checked) own started (by kernel_rfl) Try.func7
    (ChangeSpec.witness6 (enc := enc) (C := Try.checked) false ⟨#[], #[.int .u8 0, .agg #[.int .u8 0, .int .u8 0, .int .u8 0, .int .u8 0], .agg #[.int .u8 0, .int .u8 0, .int .u8 0, .int .u8 0]], []⟩ 8 (by kernel_rfl) (by kernel_rfl) (by kernel_rfl) (by kernel_rfl)) ?_
  intro W base args ds gs before hval0 hW hcnd _
  have hval : ∀ (j : Nat) t v, Try.f7.params[j]? = some t → args[j]? = some v → Value.okWide Try.prog W .any base t v := hval0
  have hW' := hW
  obtain ⟨p, q, hA0, hV, rfl, hfz, hnd⟩ := hW
  have hA : DataW.TrodAll enc Try.prog W 0 (fun _ => true) true Try.f7.params.toList args.toList ds p := hA0
  rw [Try.params7] at hA hval
  obtain ⟨v0, vs0, d0, ds0, p0, q0, hargs, rfl, rfl, h0, r0⟩ := trodAll_cons hA
  obtain ⟨v1, vs1, d1, ds1, p1, q1, rfl, rfl, rfl, h1, r1⟩ := trodAll_cons r0
  obtain ⟨v2, vs2, d2, ds2, p2, q2, rfl, rfl, rfl, h2, r2⟩ := trodAll_cons r1
  obtain ⟨rfl, rfl, rfl⟩ := trodAll_nil r2
  obtain rfl : args = #[v0, v1, v2] := by cases args; simp_all
  obtain ⟨rfl, rfl⟩ := trodVars_none hV
  obtain ⟨k0, rfl, rfl, rfl, u0⟩ := open_int Try.underlying5 (hval 0 5 v0 rfl rfl) h0
  obtain ⟨x10, x11, x12, x13, rfl, rfl, rfl, u10, u11, u12, u13⟩ := open_px Try.underlying23 Try.underlying5 cells23 cells5 (hval 1 23 v1 rfl rfl) h1
  obtain ⟨x20, x21, x22, x23, rfl, rfl, rfl, u20, u21, u22, u23⟩ := open_px Try.underlying23 Try.underlying5 cells23 cells5 (hval 2 23 v2 rfl rfl) h2
  clear hA0 hval0
  simp only [List.append_nil] at hW'
  refine (walk k0 x10 x11 x12 x13 x20 x21 x22 x23 W (bounds_u8 u0) (bounds_u8 u10) (bounds_u8 u11) (bounds_u8 u12) (bounds_u8 u13) (bounds_u8 u20) (bounds_u8 u21) (bounds_u8 u22) (bounds_u8 u23)).mono fun e W' ⟨he, hg⟩ => ?_
  subst he
  exact ⟨_, rfl, ⟨_, _, _, [], [], [], hW', (trodAll_cons_mk (shut_bool Try.underlying4 _) trodAll_mk0), (trodAll_cons_mk (shut_int Try.underlying5 u0) (trodAll_cons_mk (shut_px Try.underlying23 Try.underlying5 cells23 cells5 u10 u11 u12 u13) (trodAll_cons_mk (shut_px Try.underlying23 Try.underlying5 cells23 cells5 u20 u21 u22 u23) trodAll_mk0))), rfl, hg.frame _, fun h => by cases h⟩⟩

theorem over : Rows.mixTurnedRow.holds Try.pinned (OpenSpec.ofChange Rows.mixTurnedSpec) :=
  OpenClaim.holds_of_wide 7 Try.f7 rfl rfl rfl rfl rfl rfl rfl ⟨rfl, rfl, rfl, rfl, rfl⟩ rfl rfl rfl rfl rfl (by kernel_rfl) Try.func7 (by kernel_rfl)
    (of_decide_eq_true (by kernel_rfl)) (by unfold Func.isWrapper; first | (rw [if_pos (by decide +kernel)]; kernel_rfl) | (rw [if_neg (by decide +kernel)]; exact ⟨rfl, rfl⟩))
    (fun os started H enc _ => lifted os started H enc)

theorem proved : Rows.MixTurnedSaid := over
#print axioms proved
end Go.Proofs.Ytcihemjnanobgaa.mixTurned
