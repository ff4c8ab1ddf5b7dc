/- What Blend and Onto do, as contracts, by any mode. -/
import Derived.Test.YtcihemjnanobgaaBlend
namespace Go.Proofs.Ytcihemjnanobgaa
open Num Go.RowKit
set_option linter.unusedVariables false
set_option linter.unusedSimpArgs false

theorem belowN {B : Nat} {a w : World} (h : Below B a w) (n : Nat) : Below B a (w.drewN n) := ⟨h.os, h.tape, h.output, h.size, h.block⟩

set_option maxHeartbeats 1000000 in
theorem blend0_any (r g b a p q s c : Int) (w : World) (hr : 0 ≤ r ∧ r ≤ 255) (hg : 0 ≤ g ∧ g ≤ 255) (hb : 0 ≤ b ∧ b ≤ 255) (ha : 0 ≤ a ∧ a ≤ 255) (hp : 0 ≤ p ∧ p ≤ 255) (hq : 0 ≤ q ∧ q ≤ 255) (hs : 0 ≤ s ∧ s ≤ 255) (hc : 0 ≤ c ∧ c ≤ 255) :
    Calls Try.prog 13 #[.int .i64 0, .agg #[.int .u8 r, .int .u8 g, .int .u8 b, .int .u8 a], .agg #[.int .u8 p, .int .u8 q, .int .u8 s, .int .u8 c]] w fun e w' => e = .returned (.agg #[.int .u8 (cmp 0 r p a c), .int .u8 (cmp 0 g q a c), .int .u8 (cmp 0 b s a c), .int .u8 (cmp 0 a c a c)]) ∧ Below w.heap.size w w' := by
  have h0 : (0:Int) ≤ 0 ∧ (0:Int) ≤ 5 := by decide
  go_enter Try.func13, Try.ntmps13
  go_wp2_with (go_at_call 11; refine (comp_any _ _ _ _ _ _ _ _ _ _ ‹_› ‹_› ‹_› ‹_› ‹_› ‹_› ‹_› ‹_› ‹_›).mono ?_; rintro e w' ⟨rfl, hb⟩; have hB := via (w := w) (by go_grown) hb; have hz := hB.size; have hR : Has4 w' (w.heap.size + 1 + 1) (.int .u8 0) (.int .u8 0) (.int .u8 0) (.int .u8 0) := (Has4.new (by simp) _ _ _ _ _).below hb; clear hb; obtain ⟨r0, r1, r2, r3, rf⟩ := id hR)
  obtain ⟨s0, s1, s2, s3⟩ := set4 r0 r1 r2 r3 (.int .u8 (cmp 0 r p a c)) (.int .u8 (cmp 0 g q a c)) (.int .u8 (cmp 0 b s a c)) (.int .u8 (cmp 0 a c a c))
  refine bodyPost_ret (v := .agg #[.int .u8 (cmp 0 r p a c), .int .u8 (cmp 0 g q a c), .int .u8 (cmp 0 b s a c), .int .u8 (cmp 0 a c a c)]) (by simp [results, Try.results13, go_sem, s0, s1, s2, s3]) rfl ⟨rfl, ?_⟩
  go_grown

theorem blend_any (m r g b a p q s c : Int) (w : World) (hm : 0 ≤ m ∧ m ≤ 6) (hr : 0 ≤ r ∧ r ≤ 255) (hg : 0 ≤ g ∧ g ≤ 255) (hb : 0 ≤ b ∧ b ≤ 255) (ha : 0 ≤ a ∧ a ≤ 255) (hp : 0 ≤ p ∧ p ≤ 255) (hq : 0 ≤ q ∧ q ≤ 255) (hs : 0 ≤ s ∧ s ≤ 255) (hc : 0 ≤ c ∧ c ≤ 255) :
    Calls Try.prog 13 #[.int .i64 m, .agg #[.int .u8 r, .int .u8 g, .int .u8 b, .int .u8 a], .agg #[.int .u8 p, .int .u8 q, .int .u8 s, .int .u8 c]] w fun e w' => e = .returned (.agg #[.int .u8 (bl m r p a c), .int .u8 (bl m g q a c), .int .u8 (bl m b s a c), .int .u8 (ba m a c)]) ∧ Below w.heap.size w w' := by
  by_cases h : m = 0
  · subst h
    exact blend0_any r g b a p q s c w hr hg hb ha hp hq hs hc
  · unfold bl ba
    simp only [if_neg h]
    exact blendM_any m r g b a p q s c w (by omega) hr hg hb ha hp hq hs hc


theorem scale_b (r g b a : Int) (w : World) (hr : 0 ≤ r ∧ r ≤ 255) (hg : 0 ≤ g ∧ g ≤ 255) (hb : 0 ≤ b ∧ b ≤ 255) (ha : 0 ≤ a ∧ a ≤ 255) (k : Int) (hk : 0 ≤ k ∧ k ≤ 255) :
    Calls Try.prog 27 #[.agg #[.int .u8 r, .int .u8 g, .int .u8 b, .int .u8 a], .int .u8 k] w fun e w' => e = .returned (.agg #[.int .u8 (mulI r k), .int .u8 (mulI g k), .int .u8 (mulI b k), .int .u8 (mulI a k)]) ∧ Below w.heap.size w w' := by
  refine (scale_any r g b a w hr hg hb ha k hk).mono ?_
  rintro e w' ⟨rfl, c1, c2, n, rfl⟩
  exact ⟨rfl, belowN (by go_grown) _⟩
theorem refScale_b (r g b a : Int) (w : World) (hr : 0 ≤ r ∧ r ≤ 255) (hg : 0 ≤ g ∧ g ≤ 255) (hb : 0 ≤ b ∧ b ≤ 255) (ha : 0 ≤ a ∧ a ≤ 255) (k : Int) (hk : 0 ≤ k ∧ k ≤ 255) :
    Calls Try.prog 28 #[.agg #[.int .u8 r, .int .u8 g, .int .u8 b, .int .u8 a], .int .u8 k] w fun e w' => e = .returned (.agg #[.int .u8 (mulI r k), .int .u8 (mulI g k), .int .u8 (mulI b k), .int .u8 (mulI a k)]) ∧ Below w.heap.size w w' := by
  refine (refScale_any r g b a w hr hg hb ha k hk).mono ?_
  rintro e w' ⟨rfl, c1, c2, n, rfl⟩
  exact ⟨rfl, belowN (by go_grown) _⟩
theorem right_b (r g b a : Int) (w : World) (hr : 0 ≤ r ∧ r ≤ 255) (hg : 0 ≤ g ∧ g ≤ 255) (hb : 0 ≤ b ∧ b ≤ 255) (ha : 0 ≤ a ∧ a ≤ 255) :
    Calls Try.prog 17 #[.agg #[.int .u8 r, .int .u8 g, .int .u8 b, .int .u8 a]] w fun e w' => e = .returned (.bool (rightB r g b a)) ∧ Below w.heap.size w w' := by
  refine (right_any r g b a w hr hg hb ha).mono ?_
  rintro e w' ⟨rfl, c, rfl⟩
  exact ⟨rfl, by go_grown⟩
theorem refRight_b (r g b a : Int) (w : World) (hr : 0 ≤ r ∧ r ≤ 255) (hg : 0 ≤ g ∧ g ≤ 255) (hb : 0 ≤ b ∧ b ≤ 255) (ha : 0 ≤ a ∧ a ≤ 255) :
    Calls Try.prog 18 #[.agg #[.int .u8 r, .int .u8 g, .int .u8 b, .int .u8 a]] w fun e w' => e = .returned (.bool (rightB r g b a)) ∧ Below w.heap.size w w' := by
  refine (refRight_any r g b a w hr hg hb ha).mono ?_
  rintro e w' ⟨rfl, c, n, rfl⟩
  exact ⟨rfl, belowN (by go_grown) _⟩

/-- what stands while a region goes that ends in an answer's store: the two pixels; that there is room for the answer; that nothing else has turned -/
def Rest (w : World) (k : Nat) (w' : World) : Prop := Below w.heap.size w w' ∧ w.heap.size ≤ k ∧ ∃ v0 v1 v2 v3, Has4 w' k v0 v1 v2 v3
abbrev Sy (w : World) (p q k : Nat) (v0 v1 v2 v3 u0 u1 u2 u3 : Value) (w' : World) : Prop :=
  (w'.cell? ⟨p, 0, none⟩ = some v0 ∧ w'.cell? ⟨p, 1, none⟩ = some v1 ∧ w'.cell? ⟨p, 2, none⟩ = some v2 ∧ w'.cell? ⟨p, 3, none⟩ = some v3) ∧
  (w'.cell? ⟨q, 0, none⟩ = some u0 ∧ w'.cell? ⟨q, 1, none⟩ = some u1 ∧ w'.cell? ⟨q, 2, none⟩ = some u2 ∧ w'.cell? ⟨q, 3, none⟩ = some u3) ∧ Rest w k w'
theorem sy_below {w : World} {p q k : Nat} {v0 v1 v2 v3 u0 u1 u2 u3 : Value} {w1 w2 : World} (h : Sy w p q k v0 v1 v2 v3 u0 u1 u2 u3 w1) (hb : Below w1.heap.size w1 w2) : Sy w p q k v0 v1 v2 v3 u0 u1 u2 u3 w2 := by
  obtain ⟨⟨c0, c1, c2, c3⟩, ⟨d0, d1, d2, d3⟩, hB, hk, y0, y1, y2, y3, hR⟩ := h
  have hp : p < w1.heap.size := World.block_lt_of_cell? w1 ⟨p, 0, none⟩ c0
  have hq : q < w1.heap.size := World.block_lt_of_cell? w1 ⟨q, 0, none⟩ d0
  obtain ⟨hc, hf⟩ := bcell hb
  exact ⟨⟨by rw [hc _ _ hp]; exact c0, by rw [hc _ _ hp]; exact c1, by rw [hc _ _ hp]; exact c2, by rw [hc _ _ hp]; exact c3⟩, ⟨by rw [hc _ _ hq]; exact d0, by rw [hc _ _ hq]; exact d1, by rw [hc _ _ hq]; exact d2, by rw [hc _ _ hq]; exact d3⟩, via hB hb, hk, y0, y1, y2, y3, hR.below hb⟩
theorem sy_room {w : World} {p q k : Nat} {v0 v1 v2 v3 u0 u1 u2 u3 : Value} {w1 : World} (h : Sy w p q k v0 v1 v2 v3 u0 u1 u2 u3 w1) : Below w.heap.size w w1 ∧ ∃ y0 y1 y2 y3,
    w1.cell? ⟨k, 0, none⟩ = some y0 ∧ w1.cell? ⟨k, 1, none⟩ = some y1 ∧ w1.cell? ⟨k, 2, none⟩ = some y2 ∧ w1.cell? ⟨k, 3, none⟩ = some y3 ∧ ∀ o, w1.frozen? ⟨k, o, none⟩ = false := by
  obtain ⟨_, _, hB, hk, y0, y1, y2, y3, hR⟩ := h
  exact ⟨hB, y0, y1, y2, y3, hR.c0, hR.c1, hR.c2, hR.c3, hR.fz⟩
theorem sy_drew {w : World} {p q k : Nat} {v0 v1 v2 v3 u0 u1 u2 u3 : Value} {w1 : World} (h : Sy w p q k v0 v1 v2 v3 u0 u1 u2 u3 w1) : Sy w p q k v0 v1 v2 v3 u0 u1 u2 u3 w1.drew := sy_below h (Below.refl _ _).drew
theorem sy_set {w : World} {p q k : Nat} {v0 v1 v2 v3 u0 u1 u2 u3 : Value} {w1 : World} {x0 x1 x2 x3 : Value} (np : k ≠ p) (nq : k ≠ q) (h : Sy w p q k v0 v1 v2 v3 u0 u1 u2 u3 w1) :
    Sy w p q k v0 v1 v2 v3 u0 u1 u2 u3 ((((w1.setCell ⟨k, 0, none⟩ x0).setCell ⟨k, 1, none⟩ x1).setCell ⟨k, 2, none⟩ x2).setCell ⟨k, 3, none⟩ x3) := by
  obtain ⟨⟨c0, c1, c2, c3⟩, ⟨d0, d1, d2, d3⟩, hB, hk, y0, y1, y2, y3, hR⟩ := h
  obtain ⟨s0, s1, s2, s3⟩ := set4 hR.c0 hR.c1 hR.c2 hR.c3 x0 x1 x2 x3
  refine ⟨⟨?_, ?_, ?_, ?_⟩, ⟨?_, ?_, ?_, ?_⟩, ?_, hk, x0, x1, x2, x3, s0, s1, s2, s3, fun o => ?_⟩
  · simp [World.cell?_setCell_far, np, c0]
  · simp [World.cell?_setCell_far, np, c1]
  · simp [World.cell?_setCell_far, np, c2]
  · simp [World.cell?_setCell_far, np, c3]
  · simp [World.cell?_setCell_far, nq, d0]
  · simp [World.cell?_setCell_far, nq, d1]
  · simp [World.cell?_setCell_far, nq, d2]
  · simp [World.cell?_setCell_far, nq, d3]
  · exact (((hB.setCell (by exact hk) _).setCell (by exact hk) _).setCell (by exact hk) _).setCell (by exact hk) _
  · simp [World.frozen?_setCell, hR.fz o]

set_option maxHeartbeats 1000000 in
theorem onto_any (m k r g b a p q s c : Int) (w : World) (hm : 0 ≤ m ∧ m ≤ 6) (hk : 0 ≤ k ∧ k ≤ 255) (hr : 0 ≤ r ∧ r ≤ 255) (hg : 0 ≤ g ∧ g ≤ 255) (hb : 0 ≤ b ∧ b ≤ 255) (ha : 0 ≤ a ∧ a ≤ 255) (hp : 0 ≤ p ∧ p ≤ 255) (hq : 0 ≤ q ∧ q ≤ 255) (hs : 0 ≤ s ∧ s ≤ 255) (hc : 0 ≤ c ∧ c ≤ 255) :
    Calls Try.prog 15 #[.int .i64 m, .int .u8 k, .agg #[.int .u8 r, .int .u8 g, .int .u8 b, .int .u8 a], .agg #[.int .u8 p, .int .u8 q, .int .u8 s, .int .u8 c]] w fun e w' => e = .returned (.agg #[.int .u8 (bl m (mulI r k) p (mulI a k) c), .int .u8 (bl m (mulI g k) q (mulI a k) c), .int .u8 (bl m (mulI b k) s (mulI a k) c), .int .u8 (ba m (mulI a k) c)]) ∧ Below w.heap.size w w' := by
  have mr := mul_bd hr hk
  have mg := mul_bd hg hk
  have mb := mul_bd hb hk
  have ma := mul_bd ha hk
  have hS : Sy w w.heap.size (w.heap.size + 1) (w.heap.size + 1 + 1) (.int .u8 r) (.int .u8 g) (.int .u8 b) (.int .u8 a) (.int .u8 p) (.int .u8 q) (.int .u8 s) (.int .u8 c) (((w.alloc (.cells #[.int .u8 r, .int .u8 g, .int .u8 b, .int .u8 a] 23)).alloc (.cells #[.int .u8 p, .int .u8 q, .int .u8 s, .int .u8 c] 23)).alloc (.cells #[.int .u8 0, .int .u8 0, .int .u8 0, .int .u8 0] 23)) := by
    have g1 : Has4 (((w.alloc (.cells #[.int .u8 r, .int .u8 g, .int .u8 b, .int .u8 a] 23)).alloc (.cells #[.int .u8 p, .int .u8 q, .int .u8 s, .int .u8 c] 23)).alloc (.cells #[.int .u8 0, .int .u8 0, .int .u8 0, .int .u8 0] 23)) w.heap.size (.int .u8 r) (.int .u8 g) (.int .u8 b) (.int .u8 a) := ((Has4.new rfl _ _ _ _ _).alloc _).alloc _
    have g2 : Has4 (((w.alloc (.cells #[.int .u8 r, .int .u8 g, .int .u8 b, .int .u8 a] 23)).alloc (.cells #[.int .u8 p, .int .u8 q, .int .u8 s, .int .u8 c] 23)).alloc (.cells #[.int .u8 0, .int .u8 0, .int .u8 0, .int .u8 0] 23)) (w.heap.size + 1) (.int .u8 p) (.int .u8 q) (.int .u8 s) (.int .u8 c) := (Has4.new (by simp) _ _ _ _ _).alloc _
    have g3 : Has4 (((w.alloc (.cells #[.int .u8 r, .int .u8 g, .int .u8 b, .int .u8 a] 23)).alloc (.cells #[.int .u8 p, .int .u8 q, .int .u8 s, .int .u8 c] 23)).alloc (.cells #[.int .u8 0, .int .u8 0, .int .u8 0, .int .u8 0] 23)) (w.heap.size + 1 + 1) (.int .u8 0) (.int .u8 0) (.int .u8 0) (.int .u8 0) := Has4.new (by simp) _ _ _ _ _
    exact ⟨⟨g1.c0, g1.c1, g1.c2, g1.c3⟩, ⟨g2.c0, g2.c1, g2.c2, g2.c3⟩, by go_grown, by omega, _, _, _, _, g3⟩
  go_enter Try.func15, Try.ntmps15
  go_wp2
  go_region_held3 (fun w' => (w'.cell? ⟨w.heap.size, 0, none⟩ = some (.int .u8 r) ∧ w'.cell? ⟨w.heap.size, 1, none⟩ = some (.int .u8 g) ∧ w'.cell? ⟨w.heap.size, 2, none⟩ = some (.int .u8 b) ∧ w'.cell? ⟨w.heap.size, 3, none⟩ = some (.int .u8 a)) ∧ (w'.cell? ⟨w.heap.size + 1, 0, none⟩ = some (.int .u8 p) ∧ w'.cell? ⟨w.heap.size + 1, 1, none⟩ = some (.int .u8 q) ∧ w'.cell? ⟨w.heap.size + 1, 2, none⟩ = some (.int .u8 s) ∧ w'.cell? ⟨w.heap.size + 1, 3, none⟩ = some (.int .u8 c)) ∧ Rest w (w.heap.size + 1 + 1) w') (repeat (first | with_reducible assumption | with_reducible refine sy_drew ?_ | with_reducible refine sy_set (by omega) (by omega) ?_ | with_reducible refine sy_below ?_ ‹_›)) ((first | (go_at_call 27; with_reducible refine Calls.mono (scale_b _ _ _ _ _ ‹_› ‹_› ‹_› ‹_› _ ‹_›) ?_; rintro e w1 ⟨rfl, hb1⟩) | (go_at_call 13; with_reducible refine Calls.mono (blend_any _ _ _ _ _ _ _ _ _ _ ‹_› ‹_› ‹_› ‹_› ‹_› ‹_› ‹_› ‹_› ‹_›) ?_; rintro e w2 ⟨rfl, hb2⟩; have hq : Sy w w.heap.size (w.heap.size + 1) (w.heap.size + 1 + 1) (.int .u8 r) (.int .u8 g) (.int .u8 b) (.int .u8 a) (.int .u8 p) (.int .u8 q) (.int .u8 s) (.int .u8 c) w2 := sy_below (by repeat (first | with_reducible assumption | with_reducible refine sy_drew ?_ | with_reducible refine sy_below ?_ ‹_›)) hb2; obtain ⟨hB2, y0, y1, y2, y3, t0, t1, t2, t3, tf⟩ := sy_room hq; obtain ⟨hq1, hq2, hq3⟩ := id hq)))
  go_wp2
  obtain ⟨s0, s1, s2, s3⟩ := set4 t0 t1 t2 t3 (.int .u8 (bl m (mulI r k) p (mulI a k) c)) (.int .u8 (bl m (mulI g k) q (mulI a k) c)) (.int .u8 (bl m (mulI b k) s (mulI a k) c)) (.int .u8 (ba m (mulI a k) c))
  refine bodyPost_ret (v := .agg #[.int .u8 (bl m (mulI r k) p (mulI a k) c), .int .u8 (bl m (mulI g k) q (mulI a k) c), .int .u8 (bl m (mulI b k) s (mulI a k) c), .int .u8 (ba m (mulI a k) c)]) (by simp [results, Try.results15, go_sem, s0, s1, s2, s3]) rfl ⟨rfl, ?_⟩
  go_grown

end Go.Proofs.Ytcihemjnanobgaa
