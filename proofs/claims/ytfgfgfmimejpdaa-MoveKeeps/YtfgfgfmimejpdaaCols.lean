/- Columns' means: the contract. -/
import Derived.Test.YtfgfgfmimejpdaaStrip
namespace Go.Proofs.Ytfgfgfmimejpdaa
open Num Go.RowKit
set_option linter.unusedVariables false
set_option linter.unusedSimpArgs false
attribute [local go_sem ↓] Rc.run_min_i64

theorem Ss.strip {w : World} {lo g off n m : Nat} {B : R} {F F' : Int → Int → X} {qg qoff qn qm : Nat} {Q : R} {rho : Int → Int → X} {k4 k5 k6 k8 : Nat} {A : R} {S : Nat → X} {wr wr' : World} (h : Ss w lo g off n m B F qg qoff qn qm Q rho k4 k5 k6 k8 A 0 S wr) (hb : But g wr wr') (ho : Ox lo wr' (some ⟨g, off, none⟩) n m g off (img B F')) : Ss w lo g off n m B F' qg qoff qn qm Q rho k4 k5 k6 k8 A 0 S wr' :=
  ⟨h.b.but hb h.n4.1, has4_but h.a hb h.n5.1, h.q.but hb h.n6.1, ho, h.v.but hb h.nq.1, fun i hi => absurd hi (Nat.not_lt_zero _), h.but.trans hb, h.n4, h.n5, h.n6, h.nq, h.n8, h.hk⟩
theorem Ss.far {w : World} {lo g off n m : Nat} {B : R} {F : Int → Int → X} {qg qoff qn qm : Nat} {Q : R} {rho : Int → Int → X} {k4 k5 k6 k8 : Nat} {A : R} {S : Nat → X} {wr wr' : World} (h : Ss w lo g off n m B F qg qoff qn qm Q rho k4 k5 k6 k8 A 0 S wr) {k : Nat} (hb : But k wr wr') (hk : w.heap.size ≤ k) (h4 : k4 ≠ k ∧ k5 ≠ k ∧ k6 ≠ k) (hg : g ≠ k) (hq : qg ≠ k) : Ss w lo g off n m B F qg qoff qn qm Q rho k4 k5 k6 k8 A 0 S wr' :=
  ⟨h.b.but hb h4.1, has4_but h.a hb h4.2.1, h.q.but hb h4.2.2, h.o.but hb (fun _ => hg), h.v.but hb hq, fun i hi => absurd hi (Nat.not_lt_zero _), h.but.other hb hk, h.n4, h.n5, h.n6, h.nq, h.n8, h.hk⟩
theorem area_x0 (A : R) (V F : Int → Int → X) : areaG ⟨A.x0, A.y0, A.x0, A.y1⟩ V F = F := by
  funext x v
  unfold areaG hasB
  rw [if_neg (by simp only [decide_eq_true_eq]; omega)]
theorem area_x (A : R) (V F : Int → Int → X) {x z : Int} (h0 : A.x0 ≤ x) (h1 : x ≤ z) : areaG ⟨x, A.y0, z, A.y1⟩ V (areaG ⟨A.x0, A.y0, x, A.y1⟩ V F) = areaG ⟨A.x0, A.y0, z, A.y1⟩ V F := by
  funext a v
  unfold areaG hasB
  simp only [decide_eq_true_eq]
  by_cases h2 : x ≤ a ∧ a < z ∧ A.y0 ≤ v ∧ v < A.y1
  · rw [if_pos h2, if_pos (by omega)]
  · rw [if_neg h2]
    by_cases h3 : A.x0 ≤ a ∧ a < x ∧ A.y0 ≤ v ∧ v < A.y1
    · rw [if_pos h3, if_pos (by omega)]
    · rw [if_neg h3, if_neg (by omega)]

set_option maxRecDepth 100000 in
set_option maxHeartbeats 4000000 in
theorem columns_any (lo g off n m : Nat) (B : R) (F : Int → Int → X) (qg qoff qn qm : Nat) (Q : R) (rho : Int → Int → X) (A : R) (r : Nat) (w : World) (hl : Lay B A Q r) (hn : n ≤ 5000) (hqn : qn ≤ 5000) (hO : Ox lo w (some ⟨g, off, none⟩) n m g off (img B F)) (hV : Vx w (some ⟨qg, qoff, none⟩) qn qm qg qoff (img Q rho)) (hgl : g < w.heap.size) (hql : qg < w.heap.size) (hne : qg ≠ g) (hb : ∀ x y, byteX (rho x y)) :
    Calls Try.prog 75 #[.agg #[.int .i64 B.x0, .int .i64 B.y0, .int .i64 B.x1, .int .i64 B.y1, .slice (some ⟨g, off, none⟩) n m], .agg #[.int .i64 A.x0, .int .i64 A.y0, .int .i64 A.x1, .int .i64 A.y1], .agg #[.int .i64 Q.x0, .int .i64 Q.y0, .int .i64 Q.x1, .int .i64 Q.y1, .slice (some ⟨qg, qoff, none⟩) qn qm], .int .i64 (r : Int)] w fun e w' => e = .returned (.tuple #[]) ∧ Ox lo w' (some ⟨g, off, none⟩) n m g off (img B (areaG A (colG (atX Q rho) r) F)) ∧ But g w w' := by
  have HL := hid hl
  have HB := hid hb
  have HS : Hid (Ss w lo g off n m B (areaG ⟨A.x0, A.y0, A.x0, A.y1⟩ (colG (atX Q rho) r) F) qg qoff qn qm Q rho w.heap.size (w.heap.size + 1) (w.heap.size + 1 + 1) (w.heap.size + 1 + 1 + 1) A 0 (fun _ => noX) (((w.alloc (.cells #[.int .i64 B.x0, .int .i64 B.y0, .int .i64 B.x1, .int .i64 B.y1, .slice (some ⟨g, off, none⟩) n m] 26)).alloc (.cells #[.int .i64 A.x0, .int .i64 A.y0, .int .i64 A.x1, .int .i64 A.y1] 23)).alloc (.cells #[.int .i64 Q.x0, .int .i64 Q.y0, .int .i64 Q.x1, .int .i64 Q.y1, .slice (some ⟨qg, qoff, none⟩) qn qm] 26))) := by
    have hbl : Below w.heap.size w (((w.alloc (.cells #[.int .i64 B.x0, .int .i64 B.y0, .int .i64 B.x1, .int .i64 B.y1, .slice (some ⟨g, off, none⟩) n m] 26)).alloc (.cells #[.int .i64 A.x0, .int .i64 A.y0, .int .i64 A.x1, .int .i64 A.y1] 23)).alloc (.cells #[.int .i64 Q.x0, .int .i64 Q.y0, .int .i64 Q.x1, .int .i64 Q.y1, .slice (some ⟨qg, qoff, none⟩) qn qm] 26)) := (((Below.refl _ _).alloc (Nat.le_refl _) _).alloc (by simp) _).alloc (by simp; omega) _
    refine ⟨((Has5.new rfl _ _ _ _ _ _ _ _).alloc _).alloc _, (Rc.Has4.new (by simp) _ _ _ _ _).alloc _, Has5.new (by simp) _ _ _ _ _ _ _ _, ?_, hV.below hbl, fun i hi => absurd hi (Nat.not_lt_zero _), But.of hbl, by omega, by omega, by omega, by omega, by omega, by omega⟩
    rw [area_x0]
    exact hO.below hbl
  obtain ⟨⟨⟨i0, i1⟩, ⟨i2, i3⟩, ⟨i4, i5⟩, i6, i7⟩, ⟨⟨j0, j1⟩, ⟨j2, j3⟩, ⟨j4, j5⟩, j6, j7⟩, ⟨⟨l0, l1⟩, ⟨l2, l3⟩, ⟨l4, l5⟩, l6, l7⟩, ⟨a0, a1, a2⟩, ⟨a3, a4, a5⟩, ⟨a6, a7⟩, ⟨a8, a9⟩, hr⟩ := hl
  clear hO hV hb
  go_enter Try.func75, Try.ntmps75
  go_wp2
  generalize (((w.alloc (.cells #[.int .i64 B.x0, .int .i64 B.y0, .int .i64 B.x1, .int .i64 B.y1, .slice (some ⟨g, off, none⟩) n m] 26)).alloc (.cells #[.int .i64 A.x0, .int .i64 A.y0, .int .i64 A.x1, .int .i64 A.y1] 23)).alloc (.cells #[.int .i64 Q.x0, .int .i64 Q.y0, .int .i64 Q.x1, .int .i64 Q.y1, .slice (some ⟨qg, qoff, none⟩) qn qm] 26)) = W0 at HS ⊢
  go_loopg [8] (A.x1 - A.x0).toNat (fun gh v8 wr => ∃ x, A.x0 ≤ x ∧ x ≤ A.x1 + 256 ∧ gh = (A.x1 - x).toNat ∧ v8 = .int .i64 x ∧ Ss w lo g off n m B (areaG ⟨A.x0, A.y0, (mn x A.x1), A.y1⟩ (colG (atX Q rho) r) F) qg qoff qn qm Q rho w.heap.size (w.heap.size + 1) (w.heap.size + 1 + 1) (w.heap.size + 1 + 1 + 1) A 0 (fun _ => noX) wr)
  case atStart => exact ⟨A.x0, Int.le_refl _, by omega, rfl, rfl, by rw [show mn A.x0 A.x1 = A.x0 by unfold mn; omega]; exact HS.out⟩
  case round =>
    clear HS
    obtain ⟨x, hx0, hx1, rfl, rfl, hS⟩ := hrel
    have HS : Hid (Ss w lo g off n m B (areaG ⟨A.x0, A.y0, (mn x A.x1), A.y1⟩ (colG (atX Q rho) r) F) qg qoff qn qm Q rho w.heap.size (w.heap.size + 1) (w.heap.size + 1 + 1) (w.heap.size + 1 + 1 + 1) A 0 (fun _ => noX) wr) := hS
    obtain ⟨d0, d1, d2, d3, df⟩ := hS.a
    obtain ⟨e0, e1, e2, e3, e4, ef⟩ := hS.q
    obtain ⟨b0, b1, b2, b3, b4, bf⟩ := hS.b
    clear hS
    by_cases hlt : x < A.x1
    · replace HS : Hid (Ss w lo g off n m B (areaG ⟨A.x0, A.y0, x, A.y1⟩ (colG (atX Q rho) r) F) qg qoff qn qm Q rho w.heap.size (w.heap.size + 1) (w.heap.size + 1 + 1) (w.heap.size + 1 + 1 + 1) A 0 (fun _ => noX) wr) := by have := HS.out; rw [show mn x A.x1 = x by unfold mn; omega] at this; exact this
      obtain ⟨z, hz⟩ : ∃ z, z = mn (x + 256) A.x1 := ⟨_, rfl⟩
      have HZ := hid hz
      have hz0 : x < z ∧ z ≤ A.x1 ∧ z - x ≤ 256 := by rw [hz]; unfold mn; omega
      obtain ⟨z0, z1, z2⟩ := hz0
      obtain ⟨KW, hKW⟩ : ∃ KW : Nat, z - x = (KW : Int) := ⟨(z - x).toNat, by omega⟩
      have HLS : Hid (Lay B ⟨x, A.y0, z, A.y1⟩ Q r) := ⟨HL.out.ob, ⟨⟨by dsimp only; omega, by dsimp only; omega⟩, HL.out.oa.2.1, ⟨by dsimp only; omega, by dsimp only; omega⟩, HL.out.oa.2.2.2⟩, HL.out.oq, ⟨by dsimp only; omega, by dsimp only; omega, by dsimp only; omega⟩, HL.out.ay, ⟨by dsimp only; omega, by dsimp only; omega⟩, HL.out.qy, HL.out.hr⟩
      have HKW : Hid ((⟨x, A.y0, z, A.y1⟩ : R).x1 - (⟨x, A.y0, z, A.y1⟩ : R).x0 = (KW : Int) ∧ KW ≤ 256) := ⟨hKW, by omega⟩
      have hzz : mn (x + 256) A.x1 = z := hz.symm
      clear hz hKW
      go_wp2
      clear d0 d1 d2 d3 df e0 e1 e2 e3 e4 ef b0 b1 b2 b3 b4 bf
      have HS1 := hid (HS.out.below ((Below.refl _ _).alloc (Nat.le_refl _) (.cells #[.int .i64 A.x0, .int .i64 A.y0, .int .i64 A.x1, .int .i64 A.y1] 23)))
      have HA := hid (Rc.Has4.new (W := wr) (k := wr.heap.size) rfl (.int .i64 A.x0) (.int .i64 A.y0) (.int .i64 A.x1) (.int .i64 A.y1) 23)
      have hk5 : w.heap.size + 1 ≠ wr.heap.size ∧ w.heap.size ≠ wr.heap.size ∧ w.heap.size + 1 + 1 ≠ wr.heap.size := by have := HS.out.a.lt; have := HS.out.b.lt; have := HS.out.q.lt; omega
      have hwl : w.heap.size ≤ wr.heap.size := HS.out.but.size
      have hgr : g ≠ wr.heap.size := by omega
      generalize wr.alloc (.cells #[.int .i64 A.x0, .int .i64 A.y0, .int .i64 A.x1, .int .i64 A.y1] 23) = wr1 at HS1 HA ⊢
      generalize wr.heap.size = k9 at HA hk5 hwl hgr ⊢
      clear HS
      obtain ⟨d0, d1, d2, d3, df⟩ := HS1.out.a
      obtain ⟨c0, c1, c2, c3, cf⟩ := HA.out
      obtain ⟨e0, e1, e2, e3, e4, ef⟩ := HS1.out.q
      obtain ⟨b0, b1, b2, b3, b4, bf⟩ := HS1.out.b
      obtain ⟨k51, k52, k53⟩ := hk5
      have k54 := Ne.symm k51
      have k55 := Ne.symm k52
      have k56 := Ne.symm k53
      have hbu : But k9 wr1 ((wr1.setCell ⟨k9, 0, none⟩ (.int .i64 x)).setCell ⟨k9, 2, none⟩ (.int .i64 z)) := (but_cell wr1 k9 0 _).trans (but_cell _ k9 2 _)
      have HS2 := hid ((HS1.out.far hbu hwl ⟨k52, k51, k53⟩ hgr (by omega)).below (Below.refl _ _).drew)
      clear hbu
      go_region
      all_goals
        go_wp2_with (go_at_call 87; with_reducible refine Calls.mono (strip_any lo g off n m B (areaG ⟨A.x0, A.y0, x, A.y1⟩ (colG (atX Q rho) r) F) qg qoff qn qm Q rho ⟨x, A.y0, z, A.y1⟩ KW r _ HLS.out HKW.out.1 HKW.out.2 hn hqn HS2.out.o HS2.out.v (Nat.lt_of_lt_of_le hgl HS2.out.but.size) (Nat.lt_of_lt_of_le hql HS2.out.but.size) hne HB.out) ?_; rintro e w4 ⟨rfl, ho, hb4⟩; have HS4 := hid (HS2.out.strip hb4 ho); clear ho hb4)
        go_roundg (A.x1 - (x + 256)).toNat
        case measure => omega
        case rel => exact ⟨x + 256, by omega, by omega, rfl, rfl, HS4.out.im (by rw [area_x A _ _ hx0 (by omega), HZ.out])⟩
    · have E : mn x A.x1 = A.x1 := by unfold mn; omega
      go_wp2
      refine bodyPost_end (v := .tuple #[]) (by simp [results, Try.results75, go_sem]) rfl ⟨rfl, ?_, HS.out.but⟩
      have := HS.out.o
      rwa [E] at this
end Go.Proofs.Ytfgfgfmimejpdaa
