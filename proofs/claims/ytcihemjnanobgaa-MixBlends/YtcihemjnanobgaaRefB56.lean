/- What Blend does, as a contract, of the document, by some modes. -/
import Derived.Handy
import Derived.Test.YtcihemjnanobgaaRefComp
namespace Go.Proofs.Ytcihemjnanobgaa
open Num Go.RowKit
set_option linter.unusedVariables false
set_option linter.unusedSimpArgs false
attribute [local go_sem ↓] Go.wp_at_zero Go.wp_at_succ

set_option maxHeartbeats 8000000 in
theorem refB56_any (m r g b a p q s c : Int) (w : World) (hm : m = 5 ∨ m = 6) (hr : 0 ≤ r ∧ r ≤ 255) (hg : 0 ≤ g ∧ g ≤ 255) (hb : 0 ≤ b ∧ b ≤ 255) (ha : 0 ≤ a ∧ a ≤ 255) (hp : 0 ≤ p ∧ p ≤ 255) (hq : 0 ≤ q ∧ q ≤ 255) (hs : 0 ≤ s ∧ s ≤ 255) (hc : 0 ≤ c ∧ c ≤ 255) :
    Calls Try.prog 14 #[.int .i64 m, .agg #[.int .u8 r, .int .u8 g, .int .u8 b, .int .u8 a], .agg #[.int .u8 p, .int .u8 q, .int .u8 s, .int .u8 c]] w fun e w' => e = .returned (.agg #[.int .u8 (mn (cutI (col m r p a c)) (cov m a c)), .int .u8 (mn (cutI (col m g q a c)) (cov m a c)), .int .u8 (mn (cutI (col m b s a c)) (cov m a c)), .int .u8 (cov m a c)]) ∧ Below w.heap.size w w' := by
  have la := less_bd ha
  have lc := less_bd hc
  have wa : IntKind.u8.wrap (255 - a) = 255 - a := by rw [IntKind.wrap_u8]; omega
  have wc : IntKind.u8.wrap (255 - c) = 255 - c := by rw [IntKind.wrap_u8]; omega
  have ac := mul_bd ha hc
  have cv := cov_bd m a c
  have cc := cut_bd (a + c - mulI a c)
  have cd := cut_bd (a + c)
  obtain ⟨cc0, cc1⟩ := id cc
  obtain ⟨cd0, cd1⟩ := id cd
  have x0 := mul_bd hr hc
  have y0 := mul_bd hp ha
  have z0 := mul_bd hr hp
  have u0 := mul_bd hr lc
  have v0 := mul_bd hp la
  have k0 : 0 ≤ mn (mulI r c) (mulI p a) ∧ mn (mulI r c) (mulI p a) ≤ 255 := by unfold mn; omega
  have j0 := mx_mn (mulI r c) (mulI p a)
  have d0 : mulI r (255 - c) + mulI p (255 - a) = aprt r p a c := rfl
  have b0 := aprt_bd hr hp ha hc
  have o0 := col_bd m hr hp ha hc
  have e0 := cut_mn (n := col m r p a c) cv
  have f0 : -1000 ≤ mn (col m r p a c) (cov m a c) ∧ mn (col m r p a c) (cov m a c) ≤ 1000 := by unfold mn; omega
  have x1 := mul_bd hg hc
  have y1 := mul_bd hq ha
  have z1 := mul_bd hg hq
  have u1 := mul_bd hg lc
  have v1 := mul_bd hq la
  have k1 : 0 ≤ mn (mulI g c) (mulI q a) ∧ mn (mulI g c) (mulI q a) ≤ 255 := by unfold mn; omega
  have j1 := mx_mn (mulI g c) (mulI q a)
  have d1 : mulI g (255 - c) + mulI q (255 - a) = aprt g q a c := rfl
  have b1 := aprt_bd hg hq ha hc
  have o1 := col_bd m hg hq ha hc
  have e1 := cut_mn (n := col m g q a c) cv
  have f1 : -1000 ≤ mn (col m g q a c) (cov m a c) ∧ mn (col m g q a c) (cov m a c) ≤ 1000 := by unfold mn; omega
  have x2 := mul_bd hb hc
  have y2 := mul_bd hs ha
  have z2 := mul_bd hb hs
  have u2 := mul_bd hb lc
  have v2 := mul_bd hs la
  have k2 : 0 ≤ mn (mulI b c) (mulI s a) ∧ mn (mulI b c) (mulI s a) ≤ 255 := by unfold mn; omega
  have j2 := mx_mn (mulI b c) (mulI s a)
  have d2 : mulI b (255 - c) + mulI s (255 - a) = aprt b s a c := rfl
  have b2 := aprt_bd hb hs ha hc
  have o2 := col_bd m hb hs ha hc
  have e2 := cut_mn (n := col m b s a c) cv
  have f2 : -1000 ≤ mn (col m b s a c) (cov m a c) ∧ mn (col m b s a c) (cov m a c) ≤ 1000 := by unfold mn; omega
  rw [← e0, ← e1, ← e2]
  clear e0 e1 e2
  obtain ⟨x00, x01⟩ := id x0
  obtain ⟨y00, y01⟩ := id y0
  obtain ⟨z00, z01⟩ := id z0
  obtain ⟨u00, u01⟩ := id u0
  obtain ⟨v00, v01⟩ := id v0
  obtain ⟨k00, k01⟩ := id k0
  obtain ⟨b00, b01⟩ := id b0
  obtain ⟨x10, x11⟩ := id x1
  obtain ⟨y10, y11⟩ := id y1
  obtain ⟨z10, z11⟩ := id z1
  obtain ⟨u10, u11⟩ := id u1
  obtain ⟨v10, v11⟩ := id v1
  obtain ⟨k10, k11⟩ := id k1
  obtain ⟨b10, b11⟩ := id b1
  obtain ⟨x20, x21⟩ := id x2
  obtain ⟨y20, y21⟩ := id y2
  obtain ⟨z20, z21⟩ := id z2
  obtain ⟨u20, u21⟩ := id u2
  obtain ⟨v20, v21⟩ := id v2
  obtain ⟨k20, k21⟩ := id k2
  obtain ⟨b20, b21⟩ := id b2
  obtain ⟨ac0, ac1⟩ := id ac
  obtain ⟨hr0, hr1⟩ := id hr
  obtain ⟨hg0, hg1⟩ := id hg
  obtain ⟨hb0, hb1⟩ := id hb
  obtain ⟨ha0, ha1⟩ := id ha
  obtain ⟨hp0, hp1⟩ := id hp
  obtain ⟨hq0, hq1⟩ := id hq
  obtain ⟨hs0, hs1⟩ := id hs
  obtain ⟨hc0, hc1⟩ := id hc
  rcases hm with rfl | rfl
  all_goals
    go_enter Try.func14, Try.ntmps14
    go_wp2_with (first | (go_at_call 23; refine (refCut_any _ _ ⟨by (try unfold mn); omega, by (try unfold mn); omega⟩).mono ?_; rintro e w' ⟨rfl, rfl⟩) | (go_at_call 26; refine (less_any _ _ _).mono ?_; rintro e w' ⟨rfl, rfl⟩) | (go_at_call 22; refine (by_any _ _ _ ‹_› ‹_›).mono ?_; rintro e w' ⟨rfl, rfl⟩))
    refine wp_loop_rounds 4 ?_
    rw [rounds_succ]
    go_wp2
    go_quiet (first | (go_at_call 22; refine Calls.quiet_of_same (by_any _ _ _ ‹_› ‹_›)) | (go_at_call 22; refine quiet_more (by_any _ _ _ ‹_› ‹_›)))
    go_wp2
    go_quiet (first | (go_at_call 22; refine Calls.quiet_of_same (by_any _ _ _ ‹_› ‹_›)) | (go_at_call 22; refine quiet_more (by_any _ _ _ ‹_› ‹_›)))
    go_wp2
    go_quiet (first | (go_at_call 22; refine Calls.quiet_of_same (by_any _ _ _ ‹_› ‹_›)) | (go_at_call 22; refine quiet_more (by_any _ _ _ ‹_› ‹_›)))
    go_wp2
    go_quiet (fail)
    go_wp2_with (first | (go_at_call 23; refine (refCut_any _ _ ⟨by (try unfold mn); omega, by (try unfold mn); omega⟩).mono ?_; rintro e w' ⟨rfl, rfl⟩) | (go_at_call 26; refine (less_any _ _ _).mono ?_; rintro e w' ⟨rfl, rfl⟩) | (go_at_call 22; refine (by_any _ _ _ ‹_› ‹_›).mono ?_; rintro e w' ⟨rfl, rfl⟩))
    rw [rounds_succ]
    go_wp2
    go_quiet (first | (go_at_call 22; refine Calls.quiet_of_same (by_any _ _ _ ‹_› ‹_›)) | (go_at_call 22; refine quiet_more (by_any _ _ _ ‹_› ‹_›)))
    go_wp2
    go_quiet (first | (go_at_call 22; refine Calls.quiet_of_same (by_any _ _ _ ‹_› ‹_›)) | (go_at_call 22; refine quiet_more (by_any _ _ _ ‹_› ‹_›)))
    go_wp2
    go_quiet (first | (go_at_call 22; refine Calls.quiet_of_same (by_any _ _ _ ‹_› ‹_›)) | (go_at_call 22; refine quiet_more (by_any _ _ _ ‹_› ‹_›)))
    go_wp2
    go_quiet (fail)
    go_wp2_with (first | (go_at_call 23; refine (refCut_any _ _ ⟨by (try unfold mn); omega, by (try unfold mn); omega⟩).mono ?_; rintro e w' ⟨rfl, rfl⟩) | (go_at_call 26; refine (less_any _ _ _).mono ?_; rintro e w' ⟨rfl, rfl⟩) | (go_at_call 22; refine (by_any _ _ _ ‹_› ‹_›).mono ?_; rintro e w' ⟨rfl, rfl⟩))
    rw [rounds_succ]
    go_wp2
    go_quiet (first | (go_at_call 22; refine Calls.quiet_of_same (by_any _ _ _ ‹_› ‹_›)) | (go_at_call 22; refine quiet_more (by_any _ _ _ ‹_› ‹_›)))
    go_wp2
    go_quiet (first | (go_at_call 22; refine Calls.quiet_of_same (by_any _ _ _ ‹_› ‹_›)) | (go_at_call 22; refine quiet_more (by_any _ _ _ ‹_› ‹_›)))
    go_wp2
    go_quiet (first | (go_at_call 22; refine Calls.quiet_of_same (by_any _ _ _ ‹_› ‹_›)) | (go_at_call 22; refine quiet_more (by_any _ _ _ ‹_› ‹_›)))
    go_wp2
    go_quiet (fail)
    go_wp2_with (first | (go_at_call 23; refine (refCut_any _ _ ⟨by (try unfold mn); omega, by (try unfold mn); omega⟩).mono ?_; rintro e w' ⟨rfl, rfl⟩) | (go_at_call 26; refine (less_any _ _ _).mono ?_; rintro e w' ⟨rfl, rfl⟩) | (go_at_call 22; refine (by_any _ _ _ ‹_› ‹_›).mono ?_; rintro e w' ⟨rfl, rfl⟩))
    rw [rounds_succ]
    go_wp2
    simp [bodyPost, results, Try.results14, go_sem, col, cov]
    repeat (go_grown; with_reducible refine below_drewN ?_ _)
    go_grown
end Go.Proofs.Ytcihemjnanobgaa
