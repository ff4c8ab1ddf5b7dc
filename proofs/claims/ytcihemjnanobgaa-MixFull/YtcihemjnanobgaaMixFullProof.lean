/- For every two right pixels, one of which is made fully opaque: on top it is all that is seen, by Normal; and alpha is full by any mode, whichever is on top; no condition. -/
import Derived.Test.YtcihemjnanobgaaRows
import Derived.WalkKit
import Derived.ProofKit
import Derived.OpenShut
import Derived.Test.YtcihemjnanobgaaOpen
import Derived.Test.YtcihemjnanobgaaAwake
namespace Go.Proofs.Ytcihemjnanobgaa.mixFull
open Go.ChangeShapes Go.WideShapes Go.ChangeAt Go.RowKit Num
set_option linter.unusedVariables false
set_option linter.unusedSimpArgs false

theorem rem6 {n : Int} (h : 0 ≤ n ∧ n ≤ 255) : 0 ≤ n % 6 ∧ n % 6 ≤ 5 := by omega
theorem rem7 {n : Int} (h : 0 ≤ n ∧ n ≤ 255) : 0 ≤ n % 7 ∧ n % 7 ≤ 6 := by omega
theorem wr6 {n : Int} (h : 0 ≤ n ∧ n ≤ 255) : IntKind.i64.wrap (n.tmod 6) = n % 6 := by rw [Int.tmod_eq_emod_of_nonneg h.1, IntKind.wrap_i64]; omega
theorem wr7 {n : Int} (h : 0 ≤ n ∧ n ≤ 255) : IntKind.i64.wrap (n.tmod 7) = n % 7 := by rw [Int.tmod_eq_emod_of_nonneg h.1, IntKind.wrap_i64]; omega
theorem index3 (x y z u : Int) (w : World) : (Instr.index 23 (.agg #[.int .u8 x, .int .u8 y, .int .u8 z, .int .u8 u]) (.int .i64 3)).run Try.prog w = .ok (.int .u8 u) w := by
  have u5 := Try.underlying5
  have u23 := Try.underlying23
  have a5 := Try.isAgg5
  have z5 := Try.sizeOf5
  simp only [Instr.index, Sem.run_bind, run_underlying Try.underlying23, Result.andThen_ok]
  go_simp
theorem full_of {w w1 : World} {r g b a p q s c : Int} (h : Sz w w.heap.size (w.heap.size + 1) (.int .u8 r) (.int .u8 g) (.int .u8 b) (.int .u8 a) (.int .u8 p) (.int .u8 q) (.int .u8 s) (.int .u8 c) w1) : Sz w w.heap.size (w.heap.size + 1) (.int .u8 r) (.int .u8 g) (.int .u8 b) (.int .u8 255) (.int .u8 p) (.int .u8 q) (.int .u8 s) (.int .u8 c) (w1.setCell ⟨w.heap.size, 3, none⟩ (.int .u8 255)) := by
  obtain ⟨⟨c0, c1, c2, c3⟩, ⟨d0, d1, d2, d3⟩, hB⟩ := h
  refine ⟨⟨?_, ?_, ?_, World.cell?_setCell_same _ _ _ c3⟩, ⟨?_, ?_, ?_, ?_⟩, show Below w.heap.size w _ from Below.setCell hB (Nat.le_refl _) _⟩
  all_goals (rw [World.cell?_setCell_other _ _ _ _ (by simp)]; assumption)

set_option maxHeartbeats 2000000 in
theorem walk (k r g b a p q s c : Int) (w : World) (hk : 0 ≤ k ∧ k ≤ 255) (hr : 0 ≤ r ∧ r ≤ 255) (hg : 0 ≤ g ∧ g ≤ 255) (hb : 0 ≤ b ∧ b ≤ 255) (ha : 0 ≤ a ∧ a ≤ 255) (hp : 0 ≤ p ∧ p ≤ 255) (hq : 0 ≤ q ∧ q ≤ 255) (hs : 0 ≤ s ∧ s ≤ 255) (hc : 0 ≤ c ∧ c ≤ 255) :
    Calls Try.prog 8 #[.int .u8 k, .agg #[.int .u8 r, .int .u8 g, .int .u8 b, .int .u8 a], .agg #[.int .u8 p, .int .u8 q, .int .u8 s, .int .u8 c]] w fun e w' => e = .returned (.bool true) ∧ Below w.heap.size w w' := by
  have hE := eqPx
  have hS : Sz w w.heap.size (w.heap.size + 1) (.int .u8 r) (.int .u8 g) (.int .u8 b) (.int .u8 a) (.int .u8 p) (.int .u8 q) (.int .u8 s) (.int .u8 c) ((w.alloc (.cells #[.int .u8 r, .int .u8 g, .int .u8 b, .int .u8 a] 23)).alloc (.cells #[.int .u8 p, .int .u8 q, .int .u8 s, .int .u8 c] 23)) := by
    have g1 : Has4 ((w.alloc (.cells #[.int .u8 r, .int .u8 g, .int .u8 b, .int .u8 a] 23)).alloc (.cells #[.int .u8 p, .int .u8 q, .int .u8 s, .int .u8 c] 23)) w.heap.size (.int .u8 r) (.int .u8 g) (.int .u8 b) (.int .u8 a) := (Has4.new rfl _ _ _ _ _).alloc _
    have g2 : Has4 ((w.alloc (.cells #[.int .u8 r, .int .u8 g, .int .u8 b, .int .u8 a] 23)).alloc (.cells #[.int .u8 p, .int .u8 q, .int .u8 s, .int .u8 c] 23)) (w.heap.size + 1) (.int .u8 p) (.int .u8 q) (.int .u8 s) (.int .u8 c) := Has4.new (by simp) _ _ _ _ _
    exact ⟨⟨g1.c0, g1.c1, g1.c2, g1.c3⟩, ⟨g2.c0, g2.c1, g2.c2, g2.c3⟩, show Below w.heap.size w _ by go_grown⟩
  rcases hR : (rightB r g b a && rightB p q s c) with _ | _
  · skip
    go_enter Try.func8, Try.ntmps8
    go_wp2_with (first | (go_at_call 9; with_reducible refine Calls.mono (both_any _ _ _ _ _ _ _ _ _ ‹_› ‹_› ‹_› ‹_› ‹_› ‹_› ‹_› ‹_›) ?_; rintro e w' ⟨rfl, hb⟩; replace hS := sz_below hS hb; clear hb; obtain ⟨⟨p0, p1, p2, p3⟩, ⟨q0, q1, q2, q3⟩, hB⟩ := id hS) | (go_at_call 10; with_reducible refine Calls.mono (awake_any _) ?_; rintro e w' ⟨rfl, hb⟩; replace hS := sz_below hS hb; clear hb; obtain ⟨⟨p0, p1, p2, p3⟩, ⟨q0, q1, q2, q3⟩, hB⟩ := id hS))
    go_ret
    exact ⟨rfl, sz_out hS⟩
  have ho := rem7 hk
  have hw := wr7 hk
  have hz : (0:Int) ≤ 0 ∧ (0:Int) ≤ 6 := by decide
  have hf : (0:Int) ≤ 255 ∧ (255:Int) ≤ 255 := by decide
  have hX := index3
  have y0 : bl 0 r p 255 c = r := bl_full hr
  have y1 : bl 0 g q 255 c = g := bl_full hg
  have y2 : bl 0 b s 255 c = b := bl_full hb
  have y3 : ba 0 255 c = 255 := ba_full
  have y4 : ba (k % 7) 255 c = 255 := ba_top hc
  have y5 : ba (k % 7) c 255 = 255 := ba_on hc
  go_enter Try.func8, Try.ntmps8
  go_wp2_with (go_at_call 9; with_reducible refine Calls.mono (both_any _ _ _ _ _ _ _ _ _ ‹_› ‹_› ‹_› ‹_› ‹_› ‹_› ‹_› ‹_›) ?_; rintro e w' ⟨rfl, hb⟩; have hP : Has4 w' w.heap.size (.int .u8 r) (.int .u8 g) (.int .u8 b) (.int .u8 a) := ((Has4.new rfl _ _ _ _ _).alloc _).below hb; obtain ⟨t0, t1, t2, t3, tf⟩ := id hP; replace hS := sz_below hS hb; clear hb; obtain ⟨⟨p0, p1, p2, p3⟩, ⟨q0, q1, q2, q3⟩, hB⟩ := id hS)
  have hT : Sz w w.heap.size (w.heap.size + 1) (.int .u8 r) (.int .u8 g) (.int .u8 b) (.int .u8 255) (.int .u8 p) (.int .u8 q) (.int .u8 s) (.int .u8 c) (w'.setCell ⟨w.heap.size, 3, none⟩ (.int .u8 255)) := full_of hS
  clear p0 p1 p2 p3 q0 q1 q2 q3 t0 t1 t2 t3 tf hP hS hB
  go_region_held3 (fun w' => (w'.cell? ⟨w.heap.size, 0, none⟩ = some (.int .u8 r) ∧ w'.cell? ⟨w.heap.size, 1, none⟩ = some (.int .u8 g) ∧ w'.cell? ⟨w.heap.size, 2, none⟩ = some (.int .u8 b) ∧ w'.cell? ⟨w.heap.size, 3, none⟩ = some (.int .u8 255)) ∧ (w'.cell? ⟨w.heap.size + 1, 0, none⟩ = some (.int .u8 p) ∧ w'.cell? ⟨w.heap.size + 1, 1, none⟩ = some (.int .u8 q) ∧ w'.cell? ⟨w.heap.size + 1, 2, none⟩ = some (.int .u8 s) ∧ w'.cell? ⟨w.heap.size + 1, 3, none⟩ = some (.int .u8 c)) ∧ Kept w w') (repeat (first | with_reducible assumption | with_reducible refine sz_drew ?_ | with_reducible refine sz_below ?_ ‹_›)) ((first | (go_at_call 10; with_reducible refine Calls.mono (awake_any _) ?_; rintro e w1 ⟨rfl, hb⟩) | (go_at_call 13; with_reducible refine Calls.mono (blend_any _ _ _ _ _ _ _ _ _ _ ‹_› ‹_› ‹_› ‹_› ‹_› ‹_› ‹_› ‹_› ‹_›) ?_; rintro e w1 ⟨rfl, hb⟩)))
  go_wp2
  go_ret
  exact ⟨rfl, sz_out (p := w.heap.size) (q := w.heap.size + 1) (v0 := .int .u8 r) (v1 := .int .u8 g) (v2 := .int .u8 b) (v3 := .int .u8 255) (u0 := .int .u8 p) (u1 := .int .u8 q) (u2 := .int .u8 s) (u3 := .int .u8 c) (by (repeat (first | with_reducible assumption | with_reducible refine sz_drew ?_ | with_reducible refine sz_below ?_ ‹_›)))⟩

theorem own : ownKnob Try.prog.godebug = none := by kernel_rfl
theorem cells5 : Try.prog.cellsOf 5 = 1 := by kernel_rfl
theorem cells23 : Try.prog.cellsOf 23 = 4 := by kernel_rfl

set_option maxHeartbeats 400000 in
set_option maxRecDepth 100000 in
theorem lifted (os : Os) (started : os.Started) (H : Type) (enc : TypeId × Value → H) :
    ReturnsInHanded {} Try.checked os 8 .any (Rows.mixFullSpec.pre6 enc Try.prog Try.f8 Rows.mixFullRow.domain false) (Rows.mixFullSpec.post enc Try.prog Try.f8 false true false false) := by
  refine returnsInHanded_of_change (C := Try.checked) own started (by kernel_rfl) Try.func8
    (ChangeSpec.witness6 (enc := enc) (C := Try.checked) false ⟨#[], #[.int .u8 0, .agg #[.int .u8 0, .int .u8 0, .int .u8 0, .int .u8 0], .agg #[.int .u8 0, .int .u8 0, .int .u8 0, .int .u8 0]], []⟩ 8 (by kernel_rfl) (by kernel_rfl) (by kernel_rfl) (by kernel_rfl)) ?_
  intro W base args ds gs before hval0 hW hcnd _
  have hval : ∀ (j : Nat) t v, Try.f8.params[j]? = some t → args[j]? = some v → Value.okWide Try.prog W .any base t v := hval0
  have hW' := hW
  obtain ⟨p, q, hA0, hV, rfl, hfz, hnd⟩ := hW
  have hA : DataW.TrodAll enc Try.prog W 0 (fun _ => true) true Try.f8.params.toList args.toList ds p := hA0
  rw [Try.params8] at hA hval
  obtain ⟨v0, vs0, d0, ds0, p0, q0, hargs, rfl, rfl, h0, r0⟩ := trodAll_cons hA
  obtain ⟨v1, vs1, d1, ds1, p1, q1, rfl, rfl, rfl, h1, r1⟩ := trodAll_cons r0
  obtain ⟨v2, vs2, d2, ds2, p2, q2, rfl, rfl, rfl, h2, r2⟩ := trodAll_cons r1
  obtain ⟨rfl, rfl, rfl⟩ := trodAll_nil r2
  obtain rfl : args = #[v0, v1, v2] := by cases args; simp_all
  obtain ⟨rfl, rfl⟩ := trodVars_none hV
  obtain ⟨k0, rfl, rfl, rfl, u0⟩ := open_int Try.underlying5 (hval 0 5 v0 rfl rfl) h0
  obtain ⟨x10, x11, x12, x13, rfl, rfl, rfl, u10, u11, u12, u13⟩ := open_px Try.underlying23 Try.underlying5 cells23 cells5 (hval 1 23 v1 rfl rfl) h1
  obtain ⟨x20, x21, x22, x23, rfl, rfl, rfl, u20, u21, u22, u23⟩ := open_px Try.underlying23 Try.underlying5 cells23 cells5 (hval 2 23 v2 rfl rfl) h2
  clear hA0 hval0
  simp only [List.append_nil] at hW'
  refine (walk k0 x10 x11 x12 x13 x20 x21 x22 x23 W (bounds_u8 u0) (bounds_u8 u10) (bounds_u8 u11) (bounds_u8 u12) (bounds_u8 u13) (bounds_u8 u20) (bounds_u8 u21) (bounds_u8 u22) (bounds_u8 u23)).mono fun e W' ⟨he, hg⟩ => ?_
  subst he
  exact ⟨_, rfl, ⟨_, _, _, [], [], [], hW', (trodAll_cons_mk (shut_bool Try.underlying4 _) trodAll_mk0), (trodAll_cons_mk (shut_int Try.underlying5 u0) (trodAll_cons_mk (shut_px Try.underlying23 Try.underlying5 cells23 cells5 u10 u11 u12 u13) (trodAll_cons_mk (shut_px Try.underlying23 Try.underlying5 cells23 cells5 u20 u21 u22 u23) trodAll_mk0))), rfl, hg.frame _, fun h => by cases h⟩⟩

theorem over : Rows.mixFullRow.holds Try.pinned (OpenSpec.ofChange Rows.mixFullSpec) :=
  OpenClaim.holds_of_wide 8 Try.f8 rfl rfl rfl rfl rfl rfl rfl ⟨rfl, rfl, rfl, rfl, rfl⟩ rfl rfl rfl rfl rfl (by kernel_rfl) Try.func8 (by kernel_rfl)
    (of_decide_eq_true (by kernel_rfl)) (by unfold Func.isWrapper; first | (rw [if_pos (by decide +kernel)]; kernel_rfl) | (rw [if_neg (by decide +kernel)]; exact ⟨rfl, rfl⟩))
    (fun os started H enc _ => lifted os started H enc)

theorem proved : Rows.MixFullSaid := over
#print axioms proved
end Go.Proofs.Ytcihemjnanobgaa.mixFull
