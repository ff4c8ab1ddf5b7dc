/- A new buffer: the contract. -/
import Derived.Test.YtfgfgfmimejpdaaOwn
namespace Go.Proofs.Ytfgfgfmimejpdaa
open Num Go.RowKit
set_option linter.unusedVariables false
set_option linter.unusedSimpArgs false

theorem meet_all {B : R} (ho : Ok B) : meet B ⟨-4398046511104, -4398046511104, 4398046511104, 4398046511104⟩ = orN B := by
  unfold meet
  obtain ⟨p, q, r, s⟩ := B
  obtain ⟨⟨a0, a1⟩, ⟨b0, b1⟩, ⟨c0, c1⟩, d0, d1⟩ := ho
  dsimp only at *
  congr 1
  simp only [R.mk.injEq]
  unfold mx mn
  omega
theorem size_of {B : R} (ho : Ok B) (he : empB B = false) (ha : area B ≤ 5000) : area B = ((wid B * hei B : Nat) : Int) ∧ wid B * hei B ≤ 5000 ∧ 0 < wid B * hei B := by
  have h1 := area_len he (by omega)
  have h2 := area_0 B
  have h3 : area B ≠ 0 := by
    intro h
    rw [decide_eq_true h, he] at h2
    cases h2
  exact ⟨h1.symm, by omega, by omega⟩

set_option maxHeartbeats 2000000 in
theorem new_any (a b c d : Int) (w : World) (ho : Ok ⟨a, b, c, d⟩) (ha : area ⟨a, b, c, d⟩ ≤ 5000) :
    Calls Try.prog 36 #[.agg #[.int .i64 a, .int .i64 b, .int .i64 c, .int .i64 d]] w fun e w' => RetB w.heap.size w' e (orN ⟨a, b, c, d⟩) (img (orN ⟨a, b, c, d⟩) fun _ _ => noX) ∧ Below w.heap.size w w' := by
  obtain ⟨m, hm⟩ : ∃ m, m = meet ⟨a, b, c, d⟩ ⟨-4398046511104, -4398046511104, 4398046511104, 4398046511104⟩ := ⟨_, rfl⟩
  have HM := hid hm
  rw [meet_all ho] at hm
  have HO : Hid (Ok m) := by show Ok m; rw [hm]; exact ok_orN ho
  have H4 : Hid (Rc.Has4 ((w.alloc (.cells #[.int .i64 a, .int .i64 b, .int .i64 c, .int .i64 d] 23)).alloc (.cells #[.int .i64 0, .int .i64 0, .int .i64 0, .int .i64 0, .slice none 0 0] 26)).drew w.heap.size (.int .i64 a) (.int .i64 b) (.int .i64 c) (.int .i64 d)) := ((Rc.Has4.new rfl _ _ _ _ _).alloc _).below (Below.refl _ _).drew
  have H5 : Hid (Has5 ((w.alloc (.cells #[.int .i64 a, .int .i64 b, .int .i64 c, .int .i64 d] 23)).alloc (.cells #[.int .i64 0, .int .i64 0, .int .i64 0, .int .i64 0, .slice none 0 0] 26)).drew (w.heap.size + 1) ⟨0, 0, 0, 0⟩ none 0 0) := (Has5.new (by simp) _ _ _ _ _ _ _ _).below (Below.refl _ _).drew
  have HB0 : Hid (Below w.heap.size w ((w.alloc (.cells #[.int .i64 a, .int .i64 b, .int .i64 c, .int .i64 d] 23)).alloc (.cells #[.int .i64 0, .int .i64 0, .int .i64 0, .int .i64 0, .slice none 0 0] 26)).drew) := (((Below.refl _ _).alloc (Nat.le_refl _) _).alloc (by simp) _).drew
  rw [← hm]
  rcases he : empB ⟨a, b, c, d⟩ with _ | _
  · obtain ⟨s1, s2, s3⟩ := size_of ho he ha
    rw [orN_no he] at hm
    obtain ⟨N, hN⟩ : ∃ N : Nat, N = wid m * hei m := ⟨_, rfl⟩
    have HN : Hid (area m = (N : Int) ∧ N = wid m * hei m ∧ N ≤ 5000) := by
      subst hm
      exact ⟨by rw [hN]; exact s1, hN, by rw [hN]; exact s2⟩
    have n1 : N ≤ 5000 := HN.out.2.2
    have n0 : 0 < N := by subst hm; rw [hN]; exact s3
    have n2 : ((N : Int) == 0) = false := by simp; omega
    have n3 : decide ((536870911 : Int) < (N : Int)) = false := by simp; omega
    have hz := run_zeros N (by omega)
    obtain ⟨Z, hZ⟩ : ∃ Z, Z = zeroCs N := ⟨_, rfl⟩
    rw [← hZ] at hz
    have HZ := hid hZ
    clear hZ
    have HL : Hid (none4 N = img m fun _ _ => noX) := img_none hN
    clear s1 s2 s3 hN ho ha he hm
    go_enter Try.func36, Try.ntmps36
    go_wp2
    go_region_with (first
      | (go_at_call 61; with_reducible refine Calls.mono (all_any _) ?_; rintro e w1 ⟨rfl, hb1⟩; have H41 := hid (H4.out.below hb1); have H51 := hid (H5.out.below hb1); obtain ⟨p0, p1, p2, p3, pf⟩ := H41.out; have HB1 := hid (HB0.out.trans (hb1.mono HB0.out.size)); clear hb1)
      | (go_at_call 42; with_reducible refine Calls.mono (Rc.meet_any a b c d (-4398046511104) (-4398046511104) 4398046511104 4398046511104 _) ?_; rintro e w2 ⟨rfl, hb2⟩; rw [← HM.out]; have H42 := hid (H41.out.below hb2); have H52 := hid (H51.out.below hb2); obtain ⟨q0, q1, q2, q3, qf⟩ := H42.out; have HB2 := hid (HB1.out.trans (hb2.mono HB1.out.size)); clear hb2))
    all_goals
      clear p0 p1 p2 p3 pf
      go_wp2_with (go_at_call 62; with_reducible refine Calls.mono (Rc.area_any m.x0 m.y0 m.x1 m.y1 _ HO.out) ?_; rintro e w3 ⟨rfl, hb3⟩; rw [show area ⟨m.x0, m.y0, m.x1, m.y1⟩ = (N : Int) from HN.out.1]; have H43 := hid ((has4_set H42.out _ _ _ _).below hb3); have H53 := hid ((has5_set4 H52.out (Nat.succ_ne_self _) _ _ _ _).below hb3); have HB3 := hid ((set_below HB2.out (.int .i64 m.x0) (.int .i64 m.y0) (.int .i64 m.x1) (.int .i64 m.y1)).trans (hb3.mono (set_below HB2.out (.int .i64 m.x0) (.int .i64 m.y0) (.int .i64 m.x1) (.int .i64 m.y1)).size)); obtain ⟨t0, t1, t2, t3, tf⟩ := H43.out; obtain ⟨v0, v1, v2, v3, v4, vf⟩ := H53.out; have hsz := H53.out.lt; clear hb3)
      clear q0 q1 q2 q3 qf
      obtain ⟨i0, i1, i2, i3, jf⟩ := H43.out.alloc (.cells Z 28)
      obtain ⟨j0, j1, j2, j3, j4, kf⟩ := H53.out.alloc (.cells Z 28)
      go_region
      all_goals
        have HF := hid (And.intro (has5_set H53.out m.x0 m.y0 m.x1 m.y1 (some ⟨w3.heap.size, 0, none⟩) N N) (below_set5 HB3.out (k := w.heap.size + 1) (by omega) (.int .i64 m.x0) (.int .i64 m.y0) (.int .i64 m.x1) (.int .i64 m.y1) (.slice (some ⟨w3.heap.size, 0, none⟩) N N)))
        have hsz3 : (((((w3.setCell ⟨w.heap.size + 1, 0, none⟩ (.int .i64 m.x0)).setCell ⟨w.heap.size + 1, 1, none⟩ (.int .i64 m.y0)).setCell ⟨w.heap.size + 1, 2, none⟩ (.int .i64 m.x1)).setCell ⟨w.heap.size + 1, 3, none⟩ (.int .i64 m.y1)).setCell ⟨w.heap.size + 1, 4, none⟩ (.slice (some ⟨w3.heap.size, 0, none⟩) N N)).heap.size = w3.heap.size := by simp [World.setCell]
        clear hz tf vf jf kf t0 t1 t2 t3 i0 i1 i2 i3 j0 j1 j2 j3 j4 v0 v1 v2 v3 v4
        generalize (((((w3.setCell ⟨w.heap.size + 1, 0, none⟩ (.int .i64 m.x0)).setCell ⟨w.heap.size + 1, 1, none⟩ (.int .i64 m.y0)).setCell ⟨w.heap.size + 1, 2, none⟩ (.int .i64 m.x1)).setCell ⟨w.heap.size + 1, 3, none⟩ (.int .i64 m.y1)).setCell ⟨w.heap.size + 1, 4, none⟩ (.slice (some ⟨w3.heap.size, 0, none⟩) N N)) = w4 at HF hsz3 ⊢
        go_wp2
        have hB4 := HF.out.2
        have hN4 := ox_news (lo := w.heap.size) hB4.size (none4 N) (by rw [none4_len]; omega) 28
        rw [none4_len, show (flat (none4 N)).toArray = Z from HZ.out.symm, HL.out, hsz3] at hN4
        obtain ⟨s0, s1, s2, s3, s4, sf⟩ := (HF.out.1.alloc (.cells Z 28))
        refine bodyPost_ret (v := .agg #[.int .i64 m.x0, .int .i64 m.y0, .int .i64 m.x1, .int .i64 m.y1, .slice (some ⟨w3.heap.size, 0, none⟩) N N]) (by simp [results, Try.results36, go_sem, s0, s1, s2, s3, s4]) rfl ⟨⟨_, _, _, _, _, rfl, hN4.below (Below.refl _ _).drew⟩, ?_⟩
        exact (hB4.alloc hB4.size _).drew
  · rw [orN_yes he] at hm
    have HE : Hid (m = nil) := hm
    have HN : Hid (area m = 0) := by show area m = 0; rw [hm]; rfl
    clear ho ha he hm
    go_enter Try.func36, Try.ntmps36
    go_wp2
    go_region_with (first
      | (go_at_call 61; with_reducible refine Calls.mono (all_any _) ?_; rintro e w1 ⟨rfl, hb1⟩; have H41 := hid (H4.out.below hb1); have H51 := hid (H5.out.below hb1); obtain ⟨p0, p1, p2, p3, pf⟩ := H41.out; have HB1 := hid (HB0.out.trans (hb1.mono HB0.out.size)); clear hb1)
      | (go_at_call 42; with_reducible refine Calls.mono (Rc.meet_any a b c d (-4398046511104) (-4398046511104) 4398046511104 4398046511104 _) ?_; rintro e w2 ⟨rfl, hb2⟩; rw [← HM.out]; have H42 := hid (H41.out.below hb2); have H52 := hid (H51.out.below hb2); obtain ⟨q0, q1, q2, q3, qf⟩ := H42.out; have HB2 := hid (HB1.out.trans (hb2.mono HB1.out.size)); clear hb2))
    all_goals
      clear p0 p1 p2 p3 pf
      go_wp2_with (go_at_call 62; with_reducible refine Calls.mono (Rc.area_any m.x0 m.y0 m.x1 m.y1 _ HO.out) ?_; rintro e w3 ⟨rfl, hb3⟩; rw [show area ⟨m.x0, m.y0, m.x1, m.y1⟩ = (0 : Int) from HN.out]; have H43 := hid ((has4_set H42.out _ _ _ _).below hb3); have H53 := hid ((has5_set4 H52.out (Nat.succ_ne_self _) _ _ _ _).below hb3); have HB3 := hid ((set_below HB2.out (.int .i64 m.x0) (.int .i64 m.y0) (.int .i64 m.x1) (.int .i64 m.y1)).trans (hb3.mono (set_below HB2.out (.int .i64 m.x0) (.int .i64 m.y0) (.int .i64 m.x1) (.int .i64 m.y1)).size)); obtain ⟨t0, t1, t2, t3, tf⟩ := H43.out; obtain ⟨v0, v1, v2, v3, v4, vf⟩ := H53.out; have hsz := H53.out.lt; clear hb3)
      clear q0 q1 q2 q3 qf
      have HF := hid (And.intro (has5_set H53.out 0 0 0 0 none 0 0) (below_set5 HB3.out (k := w.heap.size + 1) (by omega) (.int .i64 0) (.int .i64 0) (.int .i64 0) (.int .i64 0) (.slice none 0 0)))
      clear tf vf t0 t1 t2 t3 v0 v1 v2 v3 v4
      generalize (((((w3.setCell ⟨w.heap.size + 1, 0, none⟩ (.int .i64 0)).setCell ⟨w.heap.size + 1, 1, none⟩ (.int .i64 0)).setCell ⟨w.heap.size + 1, 2, none⟩ (.int .i64 0)).setCell ⟨w.heap.size + 1, 3, none⟩ (.int .i64 0)).setCell ⟨w.heap.size + 1, 4, none⟩ (.slice none 0 0)) = w4 at HF ⊢
      obtain ⟨s0, s1, s2, s3, s4, sf⟩ := HF.out.1
      rw [HE.out]
      refine bodyPost_ret (v := .agg #[.int .i64 0, .int .i64 0, .int .i64 0, .int .i64 0, .slice none 0 0]) (by simp [results, Try.results36, go_sem, s0, s1, s2, s3, s4]) rfl ⟨⟨_, _, _, 0, 0, rfl, oz_nil 4 _ _ _⟩, HF.out.2⟩
end Go.Proofs.Ytfgfgfmimejpdaa
