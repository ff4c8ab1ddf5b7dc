/- The region of a list of rectangles: the contract. -/
import Derived.Test.YteiihgoobhlkbaaDoorRgJoin
import Derived.Test.YteiihgoobhlkbaaDoorRgRect
namespace Go.Proofs.YteiihgoobhlkbaaDoor.Rg
open Num Go.RowKit
set_option linter.unusedVariables false
set_option linter.unusedSimpArgs false

theorem all_any (w : World) : Calls Tryd.prog 40 #[] w fun e w' => e = .returned (.agg #[.int .i64 (-4398046511104), .int .i64 (-4398046511104), .int .i64 4398046511104, .int .i64 4398046511104]) ∧ Below w.heap.size w w' := by
  go_enter Tryd.func40, Tryd.ntmps40
  go_wp2
  refine bodyPost_ret (v := .agg #[.int .i64 (-4398046511104), .int .i64 (-4398046511104), .int .i64 4398046511104, .int .i64 4398046511104]) (by simp [results, Tryd.results40, go_sem]) rfl ⟨rfl, ?_⟩
  go_grown

/-- some rectangles in a new block -/
theorem ow_news {B : Nat} {w : World} (hB : B ≤ w.heap.size) (l : List R) (hl : l.length ≤ 1000000000000) (t : TypeId) : Ow B (w.alloc (.cells (flat l).toArray t)) (some ⟨w.heap.size, 0, none⟩) l.length l.length w.heap.size 0 l := by
  have hc : ∀ j, (w.alloc (.cells (flat l).toArray t)).cell? ⟨w.heap.size, j, none⟩ = (flat l)[j]? := fun j => by
    have := World.cell?_alloc_new w (flat l).toArray t j
    rw [this, List.getElem?_toArray]
  refine ⟨⟨by rw [flat_len], Nat.le_refl _, by simp only [maxLen]; omega, fun _ => rfl, fun j u hu => ?_⟩, fun _ => ⟨hB, by simp⟩, fun j hj => ?_⟩
  · rw [Nat.zero_add, hc]; exact hu
  · rw [Nat.zero_add, hc]
    exact ⟨by rw [List.getElem?_eq_getElem (by rw [flat_len]; exact hj)]; rfl, World.frozen?_alloc_new w _ _ j⟩

theorem has4_set {w : World} {k : Nat} {v0 v1 v2 v3 : Value} (h : Rc.Has4 w k v0 v1 v2 v3) (u0 u1 u2 u3 : Value) : Rc.Has4 ((((w.setCell ⟨k, 0, none⟩ u0).setCell ⟨k, 1, none⟩ u1).setCell ⟨k, 2, none⟩ u2).setCell ⟨k, 3, none⟩ u3) k u0 u1 u2 u3 := by
  obtain ⟨s0, s1, s2, s3⟩ := Rc.set4 h.c0 h.c1 h.c2 h.c3 u0 u1 u2 u3
  exact ⟨s0, s1, s2, s3, fun o => by simp [World.frozen?_setCell, h.fz o]⟩
theorem set_below {w w' : World} (h : Below w.heap.size w w') (u0 u1 u2 u3 : Value) : Below w.heap.size w ((((w'.setCell ⟨w.heap.size, 0, none⟩ u0).setCell ⟨w.heap.size, 1, none⟩ u1).setCell ⟨w.heap.size, 2, none⟩ u2).setCell ⟨w.heap.size, 3, none⟩ u3) :=
  (((h.setCell (p := ⟨w.heap.size, 0, none⟩) (Nat.le_refl _) _).setCell (p := ⟨w.heap.size, 1, none⟩) (Nat.le_refl _) _).setCell (p := ⟨w.heap.size, 2, none⟩) (Nat.le_refl _) _).setCell (p := ⟨w.heap.size, 3, none⟩) (Nat.le_refl _) _

set_option maxHeartbeats 2000000 in
theorem single_any (a b c d : Int) (w : World) :
    Calls Tryd.prog 68 #[.agg #[.int .i64 a, .int .i64 b, .int .i64 c, .int .i64 d]] w fun e w' => RetO w.heap.size w' e (oneL ⟨a, b, c, d⟩) ∧ Below w.heap.size w w' := by
  obtain ⟨m, hm⟩ : ∃ m, m = meet ⟨a, b, c, d⟩ ⟨-4398046511104, -4398046511104, 4398046511104, 4398046511104⟩ := ⟨_, rfl⟩
  have HM := hid hm
  have h4 : Rc.Has4 (w.alloc (.cells #[.int .i64 a, .int .i64 b, .int .i64 c, .int .i64 d] 34)).drew w.heap.size (.int .i64 a) (.int .i64 b) (.int .i64 c) (.int .i64 d) := (Rc.Has4.new rfl _ _ _ _ _).below (Below.refl _ _).drew
  have H4 := hid h4
  have hB0 : Below w.heap.size w (w.alloc (.cells #[.int .i64 a, .int .i64 b, .int .i64 c, .int .i64 d] 34)).drew := ((Below.refl _ _).alloc (Nat.le_refl _) _).drew
  have HB0 := hid hB0
  clear h4 hB0 hm
  rcases he : empB m with _ | _
  · have E : oneL ⟨a, b, c, d⟩ = [m] := by unfold oneL; rw [← HM.out, if_neg (by simp [he])]
    rw [E]
    have HE := hid he
    clear E he
    go_enter Tryd.func68, Tryd.ntmps68
    go_wp2
    go_region_with (first
      | (go_at_call 40; with_reducible refine Calls.mono (all_any _) ?_; rintro e w1 ⟨rfl, hb1⟩; have H41 := hid (H4.out.below hb1); obtain ⟨p0, p1, p2, p3, pf⟩ := H41.out; have HB1 := hid (HB0.out.trans (hb1.mono HB0.out.size)); clear hb1)
      | (go_at_call 48; with_reducible refine Calls.mono (Rc.meet_any a b c d (-4398046511104) (-4398046511104) 4398046511104 4398046511104 _) ?_; rintro e w2 ⟨rfl, hb2⟩; rw [← HM.out]; have H42 := hid (H41.out.below hb2); obtain ⟨q0, q1, q2, q3, qf⟩ := H42.out; have HB2 := hid (HB1.out.trans (hb2.mono HB1.out.size)); clear hb2))
    all_goals
      go_wp2_with (go_at_call 49; with_reducible refine Calls.mono (Rc.empty_any m.x0 m.y0 m.x1 m.y1 _) ?_; rintro e w3 ⟨rfl, hb3⟩; rw [show empB ⟨m.x0, m.y0, m.x1, m.y1⟩ = false from HE.out]; have H43 := hid ((has4_set H42.out _ _ _ _).below hb3); have HB3 := hid ((set_below HB2.out (.int .i64 m.x0) (.int .i64 m.y0) (.int .i64 m.x1) (.int .i64 m.y1)).trans (hb3.mono (set_below HB2.out (.int .i64 m.x0) (.int .i64 m.y0) (.int .i64 m.x1) (.int .i64 m.y1)).size)); obtain ⟨t0, t1, t2, t3, tf⟩ := H43.out; clear hb3)
      go_ret
      refine ⟨⟨_, _, _, w3.heap.size, 0, rfl, ow_news (l := [m]) HB3.out.size (by simp) 34⟩, HB3.out.alloc HB3.out.size _⟩
  · have E : oneL ⟨a, b, c, d⟩ = [] := by unfold oneL; rw [← HM.out, if_pos he]
    rw [E]
    have HE := hid he
    clear E he
    go_enter Tryd.func68, Tryd.ntmps68
    go_wp2
    go_region_with (first
      | (go_at_call 40; with_reducible refine Calls.mono (all_any _) ?_; rintro e w1 ⟨rfl, hb1⟩; have H41 := hid (H4.out.below hb1); obtain ⟨p0, p1, p2, p3, pf⟩ := H41.out; have HB1 := hid (HB0.out.trans (hb1.mono HB0.out.size)); clear hb1)
      | (go_at_call 48; with_reducible refine Calls.mono (Rc.meet_any a b c d (-4398046511104) (-4398046511104) 4398046511104 4398046511104 _) ?_; rintro e w2 ⟨rfl, hb2⟩; rw [← HM.out]; have H42 := hid (H41.out.below hb2); obtain ⟨q0, q1, q2, q3, qf⟩ := H42.out; have HB2 := hid (HB1.out.trans (hb2.mono HB1.out.size)); clear hb2))
    all_goals
      go_wp2_with (go_at_call 49; with_reducible refine Calls.mono (Rc.empty_any m.x0 m.y0 m.x1 m.y1 _) ?_; rintro e w3 ⟨rfl, hb3⟩; rw [show empB ⟨m.x0, m.y0, m.x1, m.y1⟩ = true from HE.out]; have H43 := hid ((has4_set H42.out _ _ _ _).below hb3); have HB3 := hid ((set_below HB2.out (.int .i64 m.x0) (.int .i64 m.y0) (.int .i64 m.x1) (.int .i64 m.y1)).trans (hb3.mono (set_below HB2.out (.int .i64 m.x0) (.int .i64 m.y0) (.int .i64 m.x1) (.int .i64 m.y1)).size)); obtain ⟨t0, t1, t2, t3, tf⟩ := H43.out; clear hb3)
      go_ret
      exact ⟨⟨_, _, _, 0, 0, rfl, oz_nil _ _ _ _⟩, HB3.out⟩
end Go.Proofs.YteiihgoobhlkbaaDoor.Rg
