/- What the document's Blend and Onto do, as contracts, by any mode: the same. -/
import Derived.Test.YtcihemjnanobgaaBlends
import Derived.Test.YtcihemjnanobgaaRefB12
import Derived.Test.YtcihemjnanobgaaRefB34
import Derived.Test.YtcihemjnanobgaaRefB56
namespace Go.Proofs.Ytcihemjnanobgaa
open Num Go.RowKit
set_option linter.unusedVariables false
set_option linter.unusedSimpArgs false

set_option maxHeartbeats 1000000 in
theorem refBlend0_any (r g b a p q s c : Int) (w : World) (hr : 0 ≤ r ∧ r ≤ 255) (hg : 0 ≤ g ∧ g ≤ 255) (hb : 0 ≤ b ∧ b ≤ 255) (ha : 0 ≤ a ∧ a ≤ 255) (hp : 0 ≤ p ∧ p ≤ 255) (hq : 0 ≤ q ∧ q ≤ 255) (hs : 0 ≤ s ∧ s ≤ 255) (hc : 0 ≤ c ∧ c ≤ 255) :
    Calls Try.prog 14 #[.int .i64 0, .agg #[.int .u8 r, .int .u8 g, .int .u8 b, .int .u8 a], .agg #[.int .u8 p, .int .u8 q, .int .u8 s, .int .u8 c]] w fun e w' => e = .returned (.agg #[.int .u8 (cmp 0 r p a c), .int .u8 (cmp 0 g q a c), .int .u8 (cmp 0 b s a c), .int .u8 (cmp 0 a c a c)]) ∧ Below w.heap.size w w' := by
  have h0 : (0:Int) ≤ 0 ∧ (0:Int) ≤ 5 := by decide
  go_enter Try.func14, Try.ntmps14
  go_wp2_with (go_at_call 12; refine (refComp_any _ _ _ _ _ _ _ _ _ _ ‹_› ‹_› ‹_› ‹_› ‹_› ‹_› ‹_› ‹_› ‹_›).mono ?_; rintro e w' ⟨rfl, hb⟩; have hB := via (w := w) (by go_grown) hb; have hz := hB.size; have hR : Has4 w' (w.heap.size + 1 + 1) (.int .u8 0) (.int .u8 0) (.int .u8 0) (.int .u8 0) := (Has4.new (by simp) _ _ _ _ _).below hb; clear hb; obtain ⟨r0, r1, r2, r3, rf⟩ := id hR)
  obtain ⟨s0, s1, s2, s3⟩ := set4 r0 r1 r2 r3 (.int .u8 (cmp 0 r p a c)) (.int .u8 (cmp 0 g q a c)) (.int .u8 (cmp 0 b s a c)) (.int .u8 (cmp 0 a c a c))
  refine bodyPost_ret (v := .agg #[.int .u8 (cmp 0 r p a c), .int .u8 (cmp 0 g q a c), .int .u8 (cmp 0 b s a c), .int .u8 (cmp 0 a c a c)]) (by simp [results, Try.results14, go_sem, s0, s1, s2, s3]) rfl ⟨rfl, ?_⟩
  go_grown

theorem refBlend_any (m r g b a p q s c : Int) (w : World) (hm : 0 ≤ m ∧ m ≤ 6) (hr : 0 ≤ r ∧ r ≤ 255) (hg : 0 ≤ g ∧ g ≤ 255) (hb : 0 ≤ b ∧ b ≤ 255) (ha : 0 ≤ a ∧ a ≤ 255) (hp : 0 ≤ p ∧ p ≤ 255) (hq : 0 ≤ q ∧ q ≤ 255) (hs : 0 ≤ s ∧ s ≤ 255) (hc : 0 ≤ c ∧ c ≤ 255) :
    Calls Try.prog 14 #[.int .i64 m, .agg #[.int .u8 r, .int .u8 g, .int .u8 b, .int .u8 a], .agg #[.int .u8 p, .int .u8 q, .int .u8 s, .int .u8 c]] w fun e w' => e = .returned (.agg #[.int .u8 (bl m r p a c), .int .u8 (bl m g q a c), .int .u8 (bl m b s a c), .int .u8 (ba m a c)]) ∧ Below w.heap.size w w' := by
  by_cases h : m = 0
  · subst h
    exact refBlend0_any r g b a p q s c w hr hg hb ha hp hq hs hc
  · unfold bl ba
    simp only [if_neg h]
    have hm' : (m = 1 ∨ m = 2) ∨ (m = 3 ∨ m = 4) ∨ (m = 5 ∨ m = 6) := by omega
    rcases hm' with hm' | hm' | hm'
    · exact refB12_any m r g b a p q s c w hm' hr hg hb ha hp hq hs hc
    · exact refB34_any m r g b a p q s c w hm' hr hg hb ha hp hq hs hc
    · exact refB56_any m r g b a p q s c w hm' hr hg hb ha hp hq hs hc

set_option maxHeartbeats 1000000 in
theorem refOnto_any (m k r g b a p q s c : Int) (w : World) (hm : 0 ≤ m ∧ m ≤ 6) (hk : 0 ≤ k ∧ k ≤ 255) (hr : 0 ≤ r ∧ r ≤ 255) (hg : 0 ≤ g ∧ g ≤ 255) (hb : 0 ≤ b ∧ b ≤ 255) (ha : 0 ≤ a ∧ a ≤ 255) (hp : 0 ≤ p ∧ p ≤ 255) (hq : 0 ≤ q ∧ q ≤ 255) (hs : 0 ≤ s ∧ s ≤ 255) (hc : 0 ≤ c ∧ c ≤ 255) :
    Calls Try.prog 16 #[.int .i64 m, .int .u8 k, .agg #[.int .u8 r, .int .u8 g, .int .u8 b, .int .u8 a], .agg #[.int .u8 p, .int .u8 q, .int .u8 s, .int .u8 c]] w fun e w' => e = .returned (.agg #[.int .u8 (bl m (mulI r k) p (mulI a k) c), .int .u8 (bl m (mulI g k) q (mulI a k) c), .int .u8 (bl m (mulI b k) s (mulI a k) c), .int .u8 (ba m (mulI a k) c)]) ∧ Below w.heap.size w w' := by
  have mr := mul_bd hr hk
  have mg := mul_bd hg hk
  have mb := mul_bd hb hk
  have ma := mul_bd ha hk
  have hS : Sy w w.heap.size (w.heap.size + 1) (w.heap.size + 1 + 1) (.int .u8 r) (.int .u8 g) (.int .u8 b) (.int .u8 a) (.int .u8 p) (.int .u8 q) (.int .u8 s) (.int .u8 c) (((w.alloc (.cells #[.int .u8 r, .int .u8 g, .int .u8 b, .int .u8 a] 23)).alloc (.cells #[.int .u8 p, .int .u8 q, .int .u8 s, .int .u8 c] 23)).alloc (.cells #[.int .u8 0, .int .u8 0, .int .u8 0, .int .u8 0] 23)) := by
    have g1 : Has4 (((w.alloc (.cells #[.int .u8 r, .int .u8 g, .int .u8 b, .int .u8 a] 23)).alloc (.cells #[.int .u8 p, .int .u8 q, .int .u8 s, .int .u8 c] 23)).alloc (.cells #[.int .u8 0, .int .u8 0, .int .u8 0, .int .u8 0] 23)) w.heap.size (.int .u8 r) (.int .u8 g) (.int .u8 b) (.int .u8 a) := ((Has4.new rfl _ _ _ _ _).alloc _).alloc _
    have g2 : Has4 (((w.alloc (.cells #[.int .u8 r, .int .u8 g, .int .u8 b, .int .u8 a] 23)).alloc (.cells #[.int .u8 p, .int .u8 q, .int .u8 s, .int .u8 c] 23)).alloc (.cells #[.int .u8 0, .int .u8 0, .int .u8 0, .int .u8 0] 23)) (w.heap.size + 1) (.int .u8 p) (.int .u8 q) (.int .u8 s) (.int .u8 c) := (Has4.new (by simp) _ _ _ _ _).alloc _
    have g3 : Has4 (((w.alloc (.cells #[.int .u8 r, .int .u8 g, .int .u8 b, .int .u8 a] 23)).alloc (.cells #[.int .u8 p, .int .u8 q, .int .u8 s, .int .u8 c] 23)).alloc (.cells #[.int .u8 0, .int .u8 0, .int .u8 0, .int .u8 0] 23)) (w.heap.size + 1 + 1) (.int .u8 0) (.int .u8 0) (.int .u8 0) (.int .u8 0) := Has4.new (by simp) _ _ _ _ _
    exact ⟨⟨g1.c0, g1.c1, g1.c2, g1.c3⟩, ⟨g2.c0, g2.c1, g2.c2, g2.c3⟩, by go_grown, by omega, _, _, _, _, g3⟩
  go_enter Try.func16, Try.ntmps16
  go_wp2
  go_region_held3 (fun w' => (w'.cell? ⟨w.heap.size, 0, none⟩ = some (.int .u8 r) ∧ w'.cell? ⟨w.heap.size, 1, none⟩ = some (.int .u8 g) ∧ w'.cell? ⟨w.heap.size, 2, none⟩ = some (.int .u8 b) ∧ w'.cell? ⟨w.heap.size, 3, none⟩ = some (.int .u8 a)) ∧ (w'.cell? ⟨w.heap.size + 1, 0, none⟩ = some (.int .u8 p) ∧ w'.cell? ⟨w.heap.size + 1, 1, none⟩ = some (.int .u8 q) ∧ w'.cell? ⟨w.heap.size + 1, 2, none⟩ = some (.int .u8 s) ∧ w'.cell? ⟨w.heap.size + 1, 3, none⟩ = some (.int .u8 c)) ∧ Rest w (w.heap.size + 1 + 1) w') (repeat (first | with_reducible assumption | with_reducible refine sy_drew ?_ | with_reducible refine sy_set (by omega) (by omega) ?_ | with_reducible refine sy_below ?_ ‹_›)) ((first | (go_at_call 28; with_reducible refine Calls.mono (refScale_b _ _ _ _ _ ‹_› ‹_› ‹_› ‹_› _ ‹_›) ?_; rintro e w1 ⟨rfl, hb1⟩) | (go_at_call 14; with_reducible refine Calls.mono (refBlend_any _ _ _ _ _ _ _ _ _ _ ‹_› ‹_› ‹_› ‹_› ‹_› ‹_› ‹_› ‹_› ‹_›) ?_; rintro e w2 ⟨rfl, hb2⟩; have hq : Sy w w.heap.size (w.heap.size + 1) (w.heap.size + 1 + 1) (.int .u8 r) (.int .u8 g) (.int .u8 b) (.int .u8 a) (.int .u8 p) (.int .u8 q) (.int .u8 s) (.int .u8 c) w2 := sy_below (by repeat (first | with_reducible assumption | with_reducible refine sy_drew ?_ | with_reducible refine sy_below ?_ ‹_›)) hb2; obtain ⟨hB2, y0, y1, y2, y3, t0, t1, t2, t3, tf⟩ := sy_room hq; obtain ⟨hq1, hq2, hq3⟩ := id hq)))
  go_wp2
  obtain ⟨s0, s1, s2, s3⟩ := set4 t0 t1 t2 t3 (.int .u8 (bl m (mulI r k) p (mulI a k) c)) (.int .u8 (bl m (mulI g k) q (mulI a k) c)) (.int .u8 (bl m (mulI b k) s (mulI a k) c)) (.int .u8 (ba m (mulI a k) c))
  refine bodyPost_ret (v := .agg #[.int .u8 (bl m (mulI r k) p (mulI a k) c), .int .u8 (bl m (mulI g k) q (mulI a k) c), .int .u8 (bl m (mulI b k) s (mulI a k) c), .int .u8 (ba m (mulI a k) c)]) (by simp [results, Try.results16, go_sem, s0, s1, s2, s3]) rfl ⟨rfl, ?_⟩
  go_grown

end Go.Proofs.Ytcihemjnanobgaa
