/- Where a buffer's box comes to: the contract. -/
import Derived.Test.YtfgfgfmimejpdaaOwn
namespace Go.Proofs.Ytfgfgfmimejpdaa
open Num Go.RowKit
set_option linter.unusedVariables false
set_option linter.unusedSimpArgs false

attribute [local go_sem ↓] Rc.run_min_i64 Rc.run_max_i64
theorem cut_any (n : Int) (w : World) : Calls Try.prog 82 #[.int .i64 n] w fun e w' => e = .returned (.int .i64 (cutN n)) ∧ w' = w := by
  have h1 := Rc.run_min_i64
  have h2 := Rc.run_max_i64
  go_enter Try.func82, Try.ntmps82
  go_wp2
  go_ret
  exact ⟨rfl, rfl⟩

/-- a box shifted, within the plane -/
def sh (B : R) (k l : Int) : R := ⟨cutN (B.x0 + k), cutN (B.y0 + l), cutN (B.x1 + k), cutN (B.y1 + l)⟩
set_option maxHeartbeats 1000000 in
theorem shifted_any (a b c d k l : Int) (w : World) (ho : Ok ⟨a, b, c, d⟩) (hk : -4398046511104 ≤ k ∧ k ≤ 4398046511104) (hl : -4398046511104 ≤ l ∧ l ≤ 4398046511104) :
    Calls Try.prog 66 #[.agg #[.int .i64 a, .int .i64 b, .int .i64 c, .int .i64 d], .int .i64 k, .int .i64 l] w fun e w' => e = .returned (.agg #[.int .i64 (cutN (a + k)), .int .i64 (cutN (b + l)), .int .i64 (cutN (c + k)), .int .i64 (cutN (d + l))]) ∧ Below w.heap.size w w' := by
  obtain ⟨⟨a0, a1⟩, ⟨b0, b1⟩, ⟨c0, c1⟩, d0, d1⟩ := ho
  dsimp only at a0 a1 b0 b1 c0 c1 d0 d1
  obtain ⟨k0, k1⟩ := hk
  obtain ⟨l0, l1⟩ := hl
  have hP : Rc.Has4 ((w.alloc (.cells #[.int .i64 a, .int .i64 b, .int .i64 c, .int .i64 d] 23)).alloc (.cells #[.int .i64 0, .int .i64 0, .int .i64 0, .int .i64 0] 23)) w.heap.size (.int .i64 a) (.int .i64 b) (.int .i64 c) (.int .i64 d) := (Rc.Has4.new rfl _ _ _ _ _).alloc _
  have hR : Rc.Has4 ((w.alloc (.cells #[.int .i64 a, .int .i64 b, .int .i64 c, .int .i64 d] 23)).alloc (.cells #[.int .i64 0, .int .i64 0, .int .i64 0, .int .i64 0] 23)) (w.heap.size + 1) (.int .i64 0) (.int .i64 0) (.int .i64 0) (.int .i64 0) := Rc.Has4.new (by simp) _ _ _ _ _
  have hB : Below w.heap.size w ((w.alloc (.cells #[.int .i64 a, .int .i64 b, .int .i64 c, .int .i64 d] 23)).alloc (.cells #[.int .i64 0, .int .i64 0, .int .i64 0, .int .i64 0] 23)) := ((Below.refl _ _).alloc (Nat.le_refl _) _).alloc (by simp) _
  have hS : Rc.Sx w w.heap.size (w.heap.size + 1) (.int .i64 a) (.int .i64 b) (.int .i64 c) (.int .i64 d) ((w.alloc (.cells #[.int .i64 a, .int .i64 b, .int .i64 c, .int .i64 d] 23)).alloc (.cells #[.int .i64 0, .int .i64 0, .int .i64 0, .int .i64 0] 23)) := ⟨⟨hP.c0, hP.c1, hP.c2, hP.c3⟩, hB, by omega, _, _, _, _, hR⟩
  clear hP hR hB
  have e0 : IntKind.i64.wrap (a + k) = a + k := by rw [IntKind.wrap_i64]; omega
  have e1 : IntKind.i64.wrap (b + l) = b + l := by rw [IntKind.wrap_i64]; omega
  have e2 : IntKind.i64.wrap (c + k) = c + k := by rw [IntKind.wrap_i64]; omega
  have e3 : IntKind.i64.wrap (d + l) = d + l := by rw [IntKind.wrap_i64]; omega
  go_enter Try.func66, Try.ntmps66
  go_wp2
  generalize ((w.alloc (.cells #[.int .i64 a, .int .i64 b, .int .i64 c, .int .i64 d] 23)).alloc (.cells #[.int .i64 0, .int .i64 0, .int .i64 0, .int .i64 0] 23)) = W0 at hS ⊢
  obtain ⟨-, hB0, hRle, u0, u1, u2, u3, t0, t1, t2, t3, tf⟩ := id hS
  go_region_held3 (fun w' => (w'.cell? ⟨w.heap.size, 0, none⟩ = some (.int .i64 a) ∧ w'.cell? ⟨w.heap.size, 1, none⟩ = some (.int .i64 b) ∧ w'.cell? ⟨w.heap.size, 2, none⟩ = some (.int .i64 c) ∧ w'.cell? ⟨w.heap.size, 3, none⟩ = some (.int .i64 d)) ∧ Rc.Rest w (w.heap.size + 1) w') (repeat (first | with_reducible assumption | with_reducible refine Rc.sx_drew ?_ | with_reducible refine Rc.sx_alloc ?_ | with_reducible refine Rc.sx_set (by omega) ?_ | with_reducible refine Rc.sx_below ?_ ‹_›)) ((first | (go_at_call 82; with_reducible refine Calls.mono (cut_any _ _) ?_; rintro e w1 ⟨rfl, rfl⟩)))
  go_wp2
  have hB1 : Below w.heap.size w W0.drew := hB0.drew
  obtain ⟨s0, s1, s2, s3⟩ := Rc.set4 (w' := W0) t0 t1 t2 t3 (.int .i64 (cutN (a + k))) (.int .i64 (cutN (b + l))) (.int .i64 (cutN (c + k))) (.int .i64 (cutN (d + l)))
  refine bodyPost_ret (v := .agg #[.int .i64 (cutN (a + k)), .int .i64 (cutN (b + l)), .int .i64 (cutN (c + k)), .int .i64 (cutN (d + l))]) (by simp [results, Try.results66, go_sem, s0, s1, s2, s3]) rfl ⟨rfl, ?_⟩
  go_grown
end Go.Proofs.Ytfgfgfmimejpdaa
