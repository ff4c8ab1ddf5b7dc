/- Rows of nothing: the contract. -/
import Derived.Test.YtfgfgfmimejpdaaRowsB
namespace Go.Proofs.Ytfgfgfmimejpdaa
open Num Go.RowKit
set_option linter.unusedVariables false
set_option linter.unusedSimpArgs false
attribute [local go_sem ↓] eqX Rc.run_min_i64 Rc.run_max_i64

set_option maxHeartbeats 1000000 in
theorem rows_nil (B : R) (ao : Option Addr) (n m : Nat) (r : Nat) (w : World) (hBo : Ok B) (hr : r ≤ 255) :
    Calls Try.prog 74 #[.agg #[.int .i64 B.x0, .int .i64 B.y0, .int .i64 B.x1, .int .i64 B.y1, .slice ao n m], .agg #[.int .i64 0, .int .i64 0, .int .i64 0, .int .i64 0], .int .i64 (r : Int)] w fun e w' => RetB w.heap.size w' e nil [] ∧ Below w.heap.size w w' := by
  obtain ⟨W0, hW0⟩ : ∃ W0, W0 = ((w.alloc (.cells #[.int .i64 B.x0, .int .i64 B.y0, .int .i64 B.x1, .int .i64 B.y1, .slice ao n m] 26)).alloc (.cells #[.int .i64 0, .int .i64 0, .int .i64 0, .int .i64 0] 23)).alloc (.cells #[.int .i64 0, .int .i64 0, .int .i64 0, .int .i64 0, .slice none 0 0] 26) := ⟨_, rfl⟩
  have HA : Hid (Has5 W0 w.heap.size B ao n m ∧ Rc.Has4 W0 (w.heap.size + 1) (.int .i64 0) (.int .i64 0) (.int .i64 0) (.int .i64 0) ∧ Has5 W0 (w.heap.size + 1 + 1) ⟨0, 0, 0, 0⟩ none 0 0 ∧ Below w.heap.size w W0 ∧ W0.heap.size = w.heap.size + 1 + 1 + 1) := by
    subst hW0
    exact ⟨((Has5.new rfl _ _ _ _ _ _ _ _).alloc _).alloc _, (Rc.Has4.new (by simp) _ _ _ _ _).alloc _, Has5.new (by simp) _ _ _ _ _ _ _ _, (((Below.refl _ _).alloc (Nat.le_refl _) _).alloc (by simp) _).alloc (by simp; omega) _, by simp⟩
  subst hW0
  obtain ⟨q0, q1, q2, q3, qf⟩ := HA.out.2.1
  have HO : Hid (Ok ⟨0, 0, 0, 0⟩ ∧ area ⟨0, 0, 0, 0⟩ ≤ 5000 ∧ orN ⟨0, 0, 0, 0⟩ = nil) := ⟨by unfold Ok; decide, by decide, by decide⟩
  obtain ⟨⟨i0, i1⟩, ⟨i2, i3⟩, ⟨i4, i5⟩, i6, i7⟩ := hBo
  go_enter Try.func74, Try.ntmps74
  go_wp2_with (first
    | (go_at_call 36; with_reducible refine Calls.mono (new_any 0 0 0 0 _ HO.out.1 HO.out.2.1) ?_; rintro e w1 ⟨hr, hb1⟩; rw [HO.out.2.2] at hr; obtain ⟨no, nn, nm, ng, noff, rfl, hO, hg1, hg2, hln⟩ := retG hr; have HL := hid (And.intro hO (And.intro hg1 (And.intro hg2 hln))); have HB1 := hid hb1; clear hr hb1 hO hg1 hg2 hln; obtain ⟨p0, p1, p2, p3, p4, pf⟩ := (HA.out.1.below HB1.out).alloc (.cells #[.int .i64 nil.x0, .int .i64 nil.y0, .int .i64 nil.x1, .int .i64 nil.y1, .slice no nn nm] 26); obtain ⟨z0, z1, z2, z3, z4, zf⟩ := (HA.out.2.2.1.below HB1.out).alloc (.cells #[.int .i64 nil.x0, .int .i64 nil.y0, .int .i64 nil.x1, .int .i64 nil.y1, .slice no nn nm] 26)))
  refine wp_loop_rounds 1 ?_
  rw [rounds_succ]
  go_wp2
  have hb := (Below.refl w1.heap.size w1).alloc (Nat.le_refl _) (.cells #[.int .i64 nil.x0, .int .i64 nil.y0, .int .i64 nil.x1, .int .i64 nil.y1, .slice no nn nm] 26)
  obtain ⟨s0, s1, s2, s3, s4⟩ := set5 z0 z1 z2 z3 z4 (.int .i64 nil.x0) (.int .i64 nil.y0) (.int .i64 nil.x1) (.int .i64 nil.y1) (.slice no nn nm)
  refine bodyPost_ret (v := .agg #[.int .i64 nil.x0, .int .i64 nil.y0, .int .i64 nil.x1, .int .i64 nil.y1, .slice no nn nm]) (by simp [results, Try.results74, go_sem, s0, s1, s2, s3, s4]) rfl ⟨⟨_, _, _, ng, noff, rfl, ?_⟩, ?_⟩
  · have h2 := HL.out.2.1
    rw [HA.out.2.2.2.2] at h2
    exact ((HL.out.1.below hb).but (but_set5 _ _ _ _ _ _ _) (fun _ => by omega)).mono (by rw [HA.out.2.2.2.2]; omega)
  · exact below_set5 (Rc.via (Rc.via HA.out.2.2.2.1 HB1.out) hb) (by omega) _ _ _ _ _
end Go.Proofs.Ytfgfgfmimejpdaa
