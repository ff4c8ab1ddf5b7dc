/- A blurred box: the contract. -/
import Derived.Test.YtfgfgfmimejpdaaBoth
import Derived.Test.YtfgfgfmimejpdaaBoxH
import Derived.Test.YtfgfgfmimejpdaaRightB
namespace Go.Proofs.Ytfgfgfmimejpdaa
open Num Go.RowKit
set_option linter.unusedVariables false
set_option linter.unusedSimpArgs false

theorem radius_any (r : Nat) (hr : r ≤ 255) (w : World) : Calls Try.prog 73 #[.int .i64 (r : Int)] w fun e w' => e = .returned (.bool true) ∧ w' = w := by
  have h1 : (0 : Int) ≤ (r : Int) := by omega
  have h2 : (r : Int) ≤ 255 := by omega
  go_enter Try.func73, Try.ntmps73
  go_wp2
  go_ret
  exact ⟨rfl, rfl⟩

/-- the buffers while a box is made -/
structure Bs (w : World) (k4 k8 k9 : Nat) (B Z : R) (ao : Option Addr) (n m g off : Nat) (no : Option Addr) (nn nm ng noff : Nat) (f F : Int → Int → X) (wr : World) : Prop where
  s : Has5 wr k4 B ao n m
  z : Has5 wr k8 ⟨0, 0, 0, 0⟩ none 0 0
  h : Has5 wr k9 Z no nn nm
  o : Ox w.heap.size wr no nn nm ng noff (img Z F)
  v : Vx wr ao n m g off (img B f)
  low : Below w.heap.size w wr
  lo : w.heap.size ≤ ng
  ne : 0 < nm → k4 ≠ ng ∧ k8 ≠ ng ∧ k9 ≠ ng
section
variable {w : World} {k4 k8 k9 : Nat} {B Z : R} {ao : Option Addr} {n m g off : Nat} {no : Option Addr} {nn nm ng noff : Nat} {f F : Int → Int → X} {wr wr' : World}
theorem Bs.below (h : Bs w k4 k8 k9 B Z ao n m g off no nn nm ng noff f F wr) (hb : Below wr.heap.size wr wr') : Bs w k4 k8 k9 B Z ao n m g off no nn nm ng noff f F wr' :=
  ⟨h.s.below hb, h.z.below hb, h.h.below hb, h.o.below hb, h.v.below hb, Rc.via h.low hb, h.lo, h.ne⟩
end
theorem s9_alloc {w : World} {k ka : Nat} {B A : R} {v : Value} {w1 : World} {o : Obj} (h : S9 w k ka B A v w1) : S9 w k ka B A v (w1.alloc o) := s9_below h ((Below.refl _ _).alloc (Nat.le_refl _) _)
theorem s9_set5 {w : World} {k ka : Nat} {B A : R} {v : Value} {w1 : World} {j : Nat} {u0 u1 u2 u3 u4 : Value} (h : S9 w k ka B A v w1) (hj : w.heap.size ≤ j) (h1 : k ≠ j) (h2 : ka ≠ j) : S9 w k ka B A v (((((w1.setCell ⟨j, 0, none⟩ u0).setCell ⟨j, 1, none⟩ u1).setCell ⟨j, 2, none⟩ u2).setCell ⟨j, 3, none⟩ u3).setCell ⟨j, 4, none⟩ u4) := by
  have hb := but_set5 w1 j u0 u1 u2 u3 u4
  obtain ⟨⟨c0, c1, c2, c3, c4, d0, d1, d2, d3⟩, hB⟩ := h
  have hk : k < w1.heap.size := World.block_lt_of_cell? w1 ⟨k, 0, none⟩ c0
  have hm : ka < w1.heap.size := World.block_lt_of_cell? w1 ⟨ka, 0, none⟩ d0
  have e1 := fun o => World.cell?_of_block (a := ⟨k, o, none⟩) (hb.block k hk h1)
  have e2 := fun o => World.cell?_of_block (a := ⟨ka, o, none⟩) (hb.block ka hm h2)
  exact ⟨⟨by rw [e1]; exact c0, by rw [e1]; exact c1, by rw [e1]; exact c2, by rw [e1]; exact c3, by rw [e1]; exact c4, by rw [e2]; exact d0, by rw [e2]; exact d1, by rw [e2]; exact d2, by rw [e2]; exact d3⟩, hB.trans (hb.low hj hB.size)⟩
theorem lt_alloc (w : World) (o : Obj) : w.heap.size < (w.alloc o).heap.size := by simp
theorem ne_before {k lo g : Nat} (h : k < lo) (hg : lo ≤ g) : g ≠ k := by omega
theorem ne_behind {c g s : Nat} (h : 0 < c → g < s) : 0 < c → g ≠ s := fun hc => Nat.ne_of_lt (h hc)
set_option maxRecDepth 100000 in
set_option maxHeartbeats 8000000 in
theorem box_any (B : R) (ao : Option Addr) (n m g off : Nat) (f : Int → Int → X) (D : R) (rx ry : Nat) (w : World) (hB : bufB B n = true) (hn : n ≤ 5000) (hV : Vx w ao n m g off (img B f)) (hb : ∀ x y, byteX (f x y)) (hX : Half D) (ha : area (grow D (rx : Int) (ry : Int) (rx : Int) (ry : Int)) ≤ 5000) (hx : rx ≤ 255) (hy : ry ≤ 255) :
    Calls Try.prog 55 #[.agg #[.int .i64 B.x0, .int .i64 B.y0, .int .i64 B.x1, .int .i64 B.y1, .slice ao n m], .agg #[.int .i64 D.x0, .int .i64 D.y0, .int .i64 D.x1, .int .i64 D.y1], .int .i64 (rx : Int), .int .i64 (ry : Int)] w fun e w' => RetB w.heap.size w' e (orN D) (img (orN D) (blurG (atX B f) rx ry)) ∧ Below w.heap.size w w' := by
  obtain ⟨Z, hZ⟩ : ∃ Z, Z = orN D := ⟨_, rfl⟩
  have HZ : Hid (orN ⟨D.x0, D.y0, D.x1, D.y1⟩ = Z) := hZ.symm
  have hZn : Z = nil ∨ empB Z = false := by
    rw [hZ]
    rcases he : empB D with _ | _
    · rw [orN_no he]; exact .inr he
    · rw [orN_yes he]; exact .inl rfl
  have hZh : Half Z := by
    rw [hZ]
    rcases orN_or D with e | e <;> rw [e]
    · unfold Half nil; decide
    · exact hX
  have hOB : Ok B ∧ (B = nil ∨ empB B = false) := by
    rcases buf_cases hB with ⟨-, h2, -⟩ | ⟨h1, h2, -⟩
    · exact ⟨by rw [h2]; exact ok_nil, .inl h2⟩
    · exact ⟨ok_of_right h2, .inr h1⟩
  have hXa : area D ≤ 5000 := Int.le_trans (grow_area hX hx hy) ha
  obtain ⟨M, hM⟩ : ∃ M, M = areaR Z B rx ry := ⟨_, rfl⟩
  obtain ⟨Q, hQ⟩ : ∃ Q, Q = rowsR M B rx ry := ⟨_, rfl⟩
  have HM : Hid (meet ⟨Z.x0, Z.y0, Z.x1, Z.y1⟩ ⟨(grow ⟨B.x0, B.y0, B.x1, B.y1⟩ (rx : Int) (ry : Int) (rx : Int) (ry : Int)).x0, (grow ⟨B.x0, B.y0, B.x1, B.y1⟩ (rx : Int) (ry : Int) (rx : Int) (ry : Int)).y0, (grow ⟨B.x0, B.y0, B.x1, B.y1⟩ (rx : Int) (ry : Int) (rx : Int) (ry : Int)).x1, (grow ⟨B.x0, B.y0, B.x1, B.y1⟩ (rx : Int) (ry : Int) (rx : Int) (ry : Int)).y1⟩ = M) := hM.symm
  have HQ : Hid (meet ⟨(grow ⟨M.x0, M.y0, M.x1, M.y1⟩ 0 (ry : Int) 0 (ry : Int)).x0, (grow ⟨M.x0, M.y0, M.x1, M.y1⟩ 0 (ry : Int) 0 (ry : Int)).y0, (grow ⟨M.x0, M.y0, M.x1, M.y1⟩ 0 (ry : Int) 0 (ry : Int)).x1, (grow ⟨M.x0, M.y0, M.x1, M.y1⟩ 0 (ry : Int) 0 (ry : Int)).y1⟩ ⟨(grow ⟨B.x0, B.y0, B.x1, B.y1⟩ (rx : Int) 0 (rx : Int) 0).x0, (grow ⟨B.x0, B.y0, B.x1, B.y1⟩ (rx : Int) 0 (rx : Int) 0).y0, (grow ⟨B.x0, B.y0, B.x1, B.y1⟩ (rx : Int) 0 (rx : Int) 0).x1, (grow ⟨B.x0, B.y0, B.x1, B.y1⟩ (rx : Int) 0 (rx : Int) 0).y1⟩ = Q) := hQ.symm
  have hP := plan_or (B := B) (Z := Z) (rx := rx) (ry := ry) hOB.1 hOB.2 hZh hZn hx hy
  rw [← hM, ← hQ] at hP
  have HP : Hid ((M = nil ∧ Q = nil ∧ img Z (fun _ _ => noX) = img Z (blurG (atX B f) rx ry)) ∨ (empB B = false ∧ Plan B Z M Q rx ry ∧ empB Q = false ∧ area Q ≤ 5000)) := by
    rcases hP with ⟨h1, h2, h3⟩ | ⟨h1, h2⟩
    · exact .inl ⟨h1, h2, h3 f⟩
    · refine .inr ⟨h1, h2, h2.some, ?_⟩
      rcases hZn with e | e
      · have := h2.lay.ax
        have h4 := h2.lay.ay
        rw [e] at this h4
        unfold nil at this
        dsimp only at this
        omega
      · have := plan_area h2 hZh e hx hy
        rcases orN_or D with e2 | e2
        · rw [hZ, e2] at e; cases e
        · rw [hZ, e2] at this; omega
  have HR : Hid (Q = nil ∨ (Fits B Q rx ∧ Ok Q ∧ area Q ≤ 5000)) := by
    rcases HP.out with ⟨h1, h2, h3⟩ | ⟨h1, h2, h3, h4⟩
    · exact .inl h2
    · exact .inr ⟨h2.fits, h2.oq, h4⟩
  have HMO : Hid (Ok M) := by
    rcases HP.out with ⟨h1, h2, h3⟩ | ⟨h1, h2, h3, h4⟩
    · show Ok M; rw [h1]; exact ok_nil
    · exact h2.lay.oa
  have HNN : Hid (wid Z * hei Z ≤ 5000) := by have := buf_new hX.ok hXa; rw [← hZ] at this; exact this.2.1
  have HH := hid (And.intro hV (And.intro hOB.1 (And.intro hX.ok (And.intro hXa (And.intro hB hb)))))
  have hn64 : n ≤ 9223372036854775807 := by omega
  have HC : Hid (((0 : Int) ≤ 0 ∧ (0 : Int) ≤ 4398046511104) ∧ ((0 : Int) ≤ (rx : Int) ∧ (rx : Int) ≤ 4398046511104) ∧ ((0 : Int) ≤ (ry : Int) ∧ (ry : Int) ≤ 4398046511104)) := ⟨by omega, by omega, by omega⟩
  have HA : Hid (Has5 (((w.alloc (.cells #[.int .i64 B.x0, .int .i64 B.y0, .int .i64 B.x1, .int .i64 B.y1, .slice ao n m] 26)).alloc (.cells #[.int .i64 D.x0, .int .i64 D.y0, .int .i64 D.x1, .int .i64 D.y1] 23)).alloc (.cells #[.int .i64 0, .int .i64 0, .int .i64 0, .int .i64 0, .slice none 0 0] 26)) w.heap.size B ao n m ∧ Rc.Has4 (((w.alloc (.cells #[.int .i64 B.x0, .int .i64 B.y0, .int .i64 B.x1, .int .i64 B.y1, .slice ao n m] 26)).alloc (.cells #[.int .i64 D.x0, .int .i64 D.y0, .int .i64 D.x1, .int .i64 D.y1] 23)).alloc (.cells #[.int .i64 0, .int .i64 0, .int .i64 0, .int .i64 0, .slice none 0 0] 26)) (w.heap.size + 1) (.int .i64 D.x0) (.int .i64 D.y0) (.int .i64 D.x1) (.int .i64 D.y1) ∧ Has5 (((w.alloc (.cells #[.int .i64 B.x0, .int .i64 B.y0, .int .i64 B.x1, .int .i64 B.y1, .slice ao n m] 26)).alloc (.cells #[.int .i64 D.x0, .int .i64 D.y0, .int .i64 D.x1, .int .i64 D.y1] 23)).alloc (.cells #[.int .i64 0, .int .i64 0, .int .i64 0, .int .i64 0, .slice none 0 0] 26)) (w.heap.size + 1 + 1) ⟨0, 0, 0, 0⟩ none 0 0 ∧ Below w.heap.size w (((w.alloc (.cells #[.int .i64 B.x0, .int .i64 B.y0, .int .i64 B.x1, .int .i64 B.y1, .slice ao n m] 26)).alloc (.cells #[.int .i64 D.x0, .int .i64 D.y0, .int .i64 D.x1, .int .i64 D.y1] 23)).alloc (.cells #[.int .i64 0, .int .i64 0, .int .i64 0, .int .i64 0, .slice none 0 0] 26)) ∧ (((w.alloc (.cells #[.int .i64 B.x0, .int .i64 B.y0, .int .i64 B.x1, .int .i64 B.y1, .slice ao n m] 26)).alloc (.cells #[.int .i64 D.x0, .int .i64 D.y0, .int .i64 D.x1, .int .i64 D.y1] 23)).alloc (.cells #[.int .i64 0, .int .i64 0, .int .i64 0, .int .i64 0, .slice none 0 0] 26)).heap.size = w.heap.size + 1 + 1 + 1) :=
    ⟨((Has5.new rfl _ _ _ _ _ _ _ _).alloc _).alloc _, (Rc.Has4.new (by simp) _ _ _ _ _).alloc _, Has5.new (by simp) _ _ _ _ _ _ _ _, (((Below.refl _ _).alloc (Nat.le_refl _) _).alloc (by simp) _).alloc (by simp; omega) _, by simp⟩
  obtain ⟨q0, q1, q2, q3, qf⟩ := HA.out.2.1
  rw [← hZ]
  clear hZ hZn hOB hXa hM hQ hP hV hb hX ha hB hZh
  go_enter Try.func55, Try.ntmps55
  go_upto_region 2 with (go_at_call 36; with_reducible refine Calls.mono (new_any D.x0 D.y0 D.x1 D.y1 _ HH.out.2.2.1 HH.out.2.2.2.1) ?_; rintro e w1 ⟨hr, hb1⟩; rw [HZ.out] at hr; obtain ⟨no, nn, nm, ng, noff, rfl, hO, hg1, hg2, hln⟩ := retG hr; have HL := hid (And.intro hO (And.intro hg1 (And.intro hg2 hln))); have HB1 := hid hb1; clear hr hb1 hO hg1 hg2 hln)
  have HS : Hid (Bs w w.heap.size (w.heap.size + 1 + 1) w1.heap.size B Z ao n m g off no nn nm ng noff f (fun _ _ => noX) (w1.alloc (.cells #[.int .i64 Z.x0, .int .i64 Z.y0, .int .i64 Z.x1, .int .i64 Z.y1, .slice no nn nm] 26))) := by
    have h1 := HB1.out
    have h2 := HL.out.2.1
    rw [HA.out.2.2.2.2] at h2
    have hal : Below w1.heap.size w1 (w1.alloc (.cells #[.int .i64 Z.x0, .int .i64 Z.y0, .int .i64 Z.x1, .int .i64 Z.y1, .slice no nn nm] 26)) := (Below.refl _ _).alloc (Nat.le_refl _) _
    refine ⟨(HA.out.1.below h1).below hal, (HA.out.2.2.1.below h1).below hal, Has5.new rfl _ _ _ _ _ _ _ _, (HL.out.1.below hal).mono (by rw [HA.out.2.2.2.2]; omega), (HH.out.1.below (Rc.via HA.out.2.2.2.1 h1)).below hal, Rc.via (Rc.via HA.out.2.2.2.1 h1) hal, by omega, fun hm => ?_⟩
    have h4 := HL.out.2.2.1 hm
    omega
  have hk9 : w.heap.size + 1 + 1 < w1.heap.size := by have h1 := HB1.out.size; rw [HA.out.2.2.2.2] at h1; omega
  have HNG0 : Hid (0 < nm → ng < w1.heap.size) := HL.out.2.2.1
  clear HL q0 q1 q2 q3 qf
  generalize w1.alloc (.cells #[.int .i64 Z.x0, .int .i64 Z.y0, .int .i64 Z.x1, .int .i64 Z.y1, .slice no nn nm] 26) = W1 at HS ⊢
  generalize w1.heap.size = k9 at HS hk9 HNG0 ⊢
  clear HB1 HA
  obtain ⟨s0, s1, s2, s3, s4, sf⟩ := HS.out.s
  go_upto_region 4 with (first
    | (go_at_call 65; with_reducible refine Calls.mono (rasterRight_yes B.x0 B.y0 B.x1 B.y1 ao n m _ hn64 HH.out.2.2.2.2.1) ?_; rintro e w2 ⟨rfl, hb2⟩; replace HS := hid (HS.out.below hb2); clear hb2)
    | (go_at_call 73; with_reducible refine Calls.mono (radius_any rx hx _) ?_; rintro e w3 ⟨rfl, hw3⟩; replace hw3 := hw3.symm; subst hw3)
    | (go_at_call 73; with_reducible refine Calls.mono (radius_any ry hy _) ?_; rintro e w4 ⟨rfl, hw4⟩; replace hw4 := hw4.symm; subst hw4))
  clear s0 s1 s2 s3 s4 sf
  obtain ⟨s0, s1, s2, s3, s4, sf⟩ := HS.out.s
  obtain ⟨h0, h1, h2, h3, h4, hf⟩ := HS.out.h
  have hk2 : k9 < w2.heap.size := HS.out.h.lt
  have hS : S8 w2 w.heap.size k9 B.x0 B.y0 B.x1 B.y1 Z.x0 Z.y0 Z.x1 Z.y1 w2 := ⟨⟨s0, s1, s2, s3, h0, h1, h2, h3⟩, Below.refl _ _⟩
  clear s0 s1 s2 s3 s4 sf h0 h1 h2 h3 h4 hf
  go_cut [10] (fun v10 wx => ∃ ka, v10 = .pointer (some ⟨ka, 0, none⟩) ∧ w2.heap.size ≤ ka ∧ Rc.Has4 wx ka (.int .i64 M.x0) (.int .i64 M.y0) (.int .i64 M.x1) (.int .i64 M.y1) ∧ Below w2.heap.size w2 wx)
  case first =>
    go_region_held3 (fun w' => (w'.cell? ⟨w.heap.size, 0, none⟩ = some (.int .i64 B.x0) ∧ w'.cell? ⟨w.heap.size, 1, none⟩ = some (.int .i64 B.y0) ∧ w'.cell? ⟨w.heap.size, 2, none⟩ = some (.int .i64 B.x1) ∧ w'.cell? ⟨w.heap.size, 3, none⟩ = some (.int .i64 B.y1) ∧ w'.cell? ⟨k9, 0, none⟩ = some (.int .i64 Z.x0) ∧ w'.cell? ⟨k9, 1, none⟩ = some (.int .i64 Z.y0) ∧ w'.cell? ⟨k9, 2, none⟩ = some (.int .i64 Z.x1) ∧ w'.cell? ⟨k9, 3, none⟩ = some (.int .i64 Z.y1)) ∧ Below w2.heap.size w2 w') (repeat (first | with_reducible assumption | with_reducible refine s8_drew ?_ | with_reducible refine s8_alloc ?_ | with_reducible refine s8_set ?_ (by omega) (by omega) (by omega) | with_reducible refine s8_below ?_ ‹_›))
      ((first
      | (go_at_call 54; with_reducible refine Calls.mono (Rc.grow_any B.x0 B.y0 B.x1 B.y1 (rx : Int) (ry : Int) (rx : Int) (ry : Int) _ HH.out.2.1 HC.out.2.1 HC.out.2.2 HC.out.2.1 HC.out.2.2) ?_; rintro e w3 ⟨rfl, hb3⟩; have HA3 := hid (((Rc.Has4.new (W := w2) (k := w2.heap.size) rfl (.int .i64 0) (.int .i64 0) (.int .i64 0) (.int .i64 0) 23).below (Below.refl _ _).drew).below hb3); have hz3 := Nat.succ_le_of_lt HA3.out.lt)
      | (go_at_call 54; with_reducible refine Calls.mono (Rc.grow_any B.x0 B.y0 B.x1 B.y1 (rx : Int) (ry : Int) (rx : Int) (ry : Int) _ HH.out.2.1 HC.out.2.1 HC.out.2.2 HC.out.2.1 HC.out.2.2) ?_; rintro e w3 ⟨rfl, hb3⟩; have hz3 : w2.heap.size ≤ w3.heap.size := drew_le hb3)
      | (go_at_call 42; with_reducible refine Calls.mono (Rc.meet_any Z.x0 Z.y0 Z.x1 Z.y1 _ _ _ _ _) ?_; rintro e w4 ⟨rfl, hb4⟩; rw [HM.out]; have HA4 := hid (HA3.out.below hb4); have D1 := hid trivial; obtain ⟨p0, p1, p2, p3, pf⟩ := HA4.out)
      | (go_at_call 42; with_reducible refine Calls.mono (Rc.meet_any Z.x0 Z.y0 Z.x1 Z.y1 _ _ _ _ _) ?_; rintro e w4 ⟨rfl, hb4⟩; rw [HM.out]; have HA4 := hid ((Rc.Has4.new (W := w3) (k := w3.heap.size) rfl (.int .i64 0) (.int .i64 0) (.int .i64 0) (.int .i64 0) 23).below hb4); have D2 := hid trivial; obtain ⟨p0, p1, p2, p3, pf⟩ := HA4.out)
      | (go_at_call 42; with_reducible refine Calls.mono (Rc.meet_any Z.x0 Z.y0 Z.x1 Z.y1 _ _ _ _ _) ?_; rintro e w4 ⟨rfl, hb4⟩; rw [HM.out]; have hz4 : w3.heap.size ≤ w4.heap.size := hb4.size)))
    all_goals
      rename_i hHeld
      go_wp2_with fail
      go_meet
    case rel => exact ⟨w4.heap.size, rfl, Nat.le_trans hz3 hz4, Rc.Has4.new rfl _ _ _ _ _, hHeld.2⟩
    case rel => exact ⟨w3.heap.size, rfl, hz3, has4_set HA4.out _ _ _ _, hHeld.2⟩
    case rel => exact ⟨w2.heap.size, rfl, Nat.le_refl _, has4_set HA4.out _ _ _ _, hHeld.2⟩
  case rest =>
    obtain ⟨ka, rfl, hka, hA5, hB5⟩ := hcut
    obtain ⟨w5, rfl⟩ : ∃ w5, w5 = wc := ⟨_, rfl⟩
    clear hS
    have HA5 := hid hA5
    have HS5 := hid (HS.out.below hB5)
    clear hA5 hB5 HS
    have hka5 : ka < w5.heap.size := HA5.out.lt
    have hk95 : k9 < w5.heap.size := HS5.out.h.lt
    have HNL : Hid (0 < nm → ng < w5.heap.size) := fun hm => Nat.lt_trans (HNG0.out hm) hk95
    obtain ⟨s0, s1, s2, s3, s4, sf⟩ := HS5.out.s
    obtain ⟨t0, t1, t2, t3, tf⟩ := HA5.out
    have hS : S9 w5 w.heap.size ka B M (.slice ao n m) w5 := ⟨⟨s0, s1, s2, s3, s4, t0, t1, t2, t3⟩, Below.refl _ _⟩
    clear s0 s1 s2 s3 s4 sf t0 t1 t2 t3 tf
    go_wp2
    go_cut [11] (fun v11 wx => ∃ kr ro rn rm rg roff, v11 = .pointer (some ⟨kr, 0, none⟩) ∧ w5.heap.size ≤ kr ∧ Has5 wx kr Q ro rn rm ∧ Ox w5.heap.size wx ro rn rm rg roff (img Q (rowG (atX B f) rx)) ∧ w5.heap.size ≤ rg ∧ (0 < rm → rg < wx.heap.size) ∧ Below w5.heap.size w5 wx)
    case first =>
      go_region_held3 (fun w' => (w'.cell? ⟨w.heap.size, 0, none⟩ = some (.int .i64 B.x0) ∧ w'.cell? ⟨w.heap.size, 1, none⟩ = some (.int .i64 B.y0) ∧ w'.cell? ⟨w.heap.size, 2, none⟩ = some (.int .i64 B.x1) ∧ w'.cell? ⟨w.heap.size, 3, none⟩ = some (.int .i64 B.y1) ∧ w'.cell? ⟨w.heap.size, 4, none⟩ = some (.slice ao n m) ∧ w'.cell? ⟨ka, 0, none⟩ = some (.int .i64 M.x0) ∧ w'.cell? ⟨ka, 1, none⟩ = some (.int .i64 M.y0) ∧ w'.cell? ⟨ka, 2, none⟩ = some (.int .i64 M.x1) ∧ w'.cell? ⟨ka, 3, none⟩ = some (.int .i64 M.y1)) ∧ Below w5.heap.size w5 w') (repeat (first | with_reducible assumption | with_reducible refine s9_drew ?_ | with_reducible refine s9_alloc ?_ | with_reducible refine s9_set5 ?_ (by omega) (by omega) (by omega) | with_reducible refine s9_below ?_ ‹_›))
        ((first
        | (go_at_call 54; with_reducible refine Calls.mono (Rc.grow_any M.x0 M.y0 M.x1 M.y1 0 (ry : Int) 0 (ry : Int) _ HMO.out HC.out.1 HC.out.2.2 HC.out.1 HC.out.2.2) ?_; rintro e w6 ⟨rfl, hb6⟩; have HZ6 := hid (((Has5.new (W := w5) (k := w5.heap.size) rfl 0 0 0 0 none 0 0 26).below (Below.refl _ _).drew).below hb6); have HB6 := hid (Rc.via (((Below.refl w5.heap.size w5).alloc (Nat.le_refl _) (.cells #[.int .i64 0, .int .i64 0, .int .i64 0, .int .i64 0, .slice none 0 0] 26)).drew) hb6); have hz6 := HB6.out.size)
        | (go_at_call 54; with_reducible refine Calls.mono (Rc.grow_any M.x0 M.y0 M.x1 M.y1 0 (ry : Int) 0 (ry : Int) _ HMO.out HC.out.1 HC.out.2.2 HC.out.1 HC.out.2.2) ?_; rintro e w6 ⟨rfl, hb6⟩; have HB6 := hid (Rc.via ((Below.refl w5.heap.size w5).drew) hb6); have hz6 := HB6.out.size)
        | (go_at_call 54; with_reducible refine Calls.mono (Rc.grow_any B.x0 B.y0 B.x1 B.y1 (rx : Int) 0 (rx : Int) 0 _ HH.out.2.1 HC.out.2.1 HC.out.1 HC.out.2.1 HC.out.1) ?_; rintro e w7 ⟨rfl, hb7⟩; have HZ7 := hid (HZ6.out.below hb7); have HB7 := hid (Rc.via HB6.out hb7); have hz7 := HB7.out.size)
        | (go_at_call 54; with_reducible refine Calls.mono (Rc.grow_any B.x0 B.y0 B.x1 B.y1 (rx : Int) 0 (rx : Int) 0 _ HH.out.2.1 HC.out.2.1 HC.out.1 HC.out.2.1 HC.out.1) ?_; rintro e w7 ⟨rfl, hb7⟩; have HZ7 := hid ((Has5.new (W := w6) (k := w6.heap.size) rfl 0 0 0 0 none 0 0 26).below hb7); have HB7 := hid (Rc.via (HB6.out.alloc HB6.out.size (.cells #[.int .i64 0, .int .i64 0, .int .i64 0, .int .i64 0, .slice none 0 0] 26)) hb7); have hz7 := HB7.out.size)
        | (go_at_call 54; with_reducible refine Calls.mono (Rc.grow_any B.x0 B.y0 B.x1 B.y1 (rx : Int) 0 (rx : Int) 0 _ HH.out.2.1 HC.out.2.1 HC.out.1 HC.out.2.1 HC.out.1) ?_; rintro e w7 ⟨rfl, hb7⟩; have HB7 := hid (Rc.via HB6.out hb7); have hz7 := HB7.out.size)
        | (go_at_call 42; with_reducible refine Calls.mono (Rc.meet_any _ _ _ _ _ _ _ _ _) ?_; rintro e w8 ⟨rfl, hb8⟩; rw [HQ.out]; have HZ8 := hid (HZ7.out.below hb8); have HB8 := hid (Rc.via HB7.out hb8); have hz8 := HB8.out.size)
        | (go_at_call 42; with_reducible refine Calls.mono (Rc.meet_any _ _ _ _ _ _ _ _ _) ?_; rintro e w8 ⟨rfl, hb8⟩; rw [HQ.out]; have HZ8 := hid ((Has5.new (W := w7) (k := w7.heap.size) rfl 0 0 0 0 none 0 0 26).below hb8); have HB8 := hid (Rc.via (HB7.out.alloc HB7.out.size (.cells #[.int .i64 0, .int .i64 0, .int .i64 0, .int .i64 0, .slice none 0 0] 26)) hb8); have hz8 := HB8.out.size)
        | (go_at_call 42; with_reducible refine Calls.mono (Rc.meet_any _ _ _ _ _ _ _ _ _) ?_; rintro e w8 ⟨rfl, hb8⟩; rw [HQ.out]; have HB8 := hid (Rc.via HB7.out hb8); have hz8 := HB8.out.size)
        | (go_at_call 74; with_reducible refine Calls.mono (rows_any B Q ao n m g off f rx _ HH.out.2.1 hn hx (HS5.out.v.below HB8.out) HH.out.2.2.2.2.2 HR.out) ?_; rintro e w9 ⟨hr9, hb9⟩; obtain ⟨ro, rn, rm, rg, roff, rfl, hO9, hg1, hg2, hln⟩ := retG hr9; have HZ9 := hid (HZ8.out.below hb9); have HB9 := hid (Rc.via HB8.out hb9); have HO9 := hid (And.intro (hO9.mono hz8) (And.intro (Nat.le_trans hz8 hg1) (And.intro hg2 (ne_before HZ8.out.lt hg1)))); have hz9 := HB9.out.size; obtain ⟨p0, p1, p2, p3, p4, pf⟩ := HZ9.out; clear hr9 hO9 hg1 hg2 hln)
        | (go_at_call 74; with_reducible refine Calls.mono (rows_any B Q ao n m g off f rx _ HH.out.2.1 hn hx (HS5.out.v.below (HB8.out.alloc HB8.out.size (.cells #[.int .i64 0, .int .i64 0, .int .i64 0, .int .i64 0, .slice none 0 0] 26))) HH.out.2.2.2.2.2 HR.out) ?_; rintro e w9 ⟨hr9, hb9⟩; obtain ⟨ro, rn, rm, rg, roff, rfl, hO9, hg1, hg2, hln⟩ := retG hr9; have HZ9 := hid ((Has5.new (W := w8) (k := w8.heap.size) rfl 0 0 0 0 none 0 0 26).below hb9); have HB9 := hid (Rc.via (HB8.out.alloc HB8.out.size (.cells #[.int .i64 0, .int .i64 0, .int .i64 0, .int .i64 0, .slice none 0 0] 26)) hb9); have HO9 := hid (And.intro (hO9.mono (HB8.out.alloc HB8.out.size (.cells #[.int .i64 0, .int .i64 0, .int .i64 0, .int .i64 0, .slice none 0 0] 26)).size) (And.intro (Nat.le_trans (HB8.out.alloc HB8.out.size (.cells #[.int .i64 0, .int .i64 0, .int .i64 0, .int .i64 0, .slice none 0 0] 26)).size hg1) (And.intro hg2 (ne_before (lt_alloc w8 (.cells #[.int .i64 0, .int .i64 0, .int .i64 0, .int .i64 0, .slice none 0 0] 26)) hg1)))); have hz9 := HB9.out.size; obtain ⟨p0, p1, p2, p3, p4, pf⟩ := HZ9.out; clear hr9 hO9 hg1 hg2 hln)
        | (go_at_call 74; with_reducible refine Calls.mono (rows_any B Q ao n m g off f rx _ HH.out.2.1 hn hx (HS5.out.v.below HB8.out) HH.out.2.2.2.2.2 HR.out) ?_; rintro e w9 ⟨hr9, hb9⟩; obtain ⟨ro, rn, rm, rg, roff, rfl, hO9, hg1, hg2, hln⟩ := retG hr9; have HB9 := hid (Rc.via HB8.out hb9); have HO9 := hid (And.intro (hO9.mono hz8) (And.intro (Nat.le_trans hz8 hg1) (And.intro hg2 (ne_behind hg2)))); have hz9 := HB9.out.size; clear hr9 hO9 hg1 hg2 hln)))
      all_goals
        rename_i hHeld
        go_wp2_with fail
        go_meet
      all_goals first
        | exact ⟨_, ro, rn, rm, rg, roff, rfl, (by omega), has5_set HZ9.out Q.x0 Q.y0 Q.x1 Q.y1 ro rn rm, HO9.out.1.but (but_set5 _ _ _ _ _ _ _) (fun _ => HO9.out.2.2.2), HO9.out.2.1, fun hm => Nat.lt_of_lt_of_le (HO9.out.2.2.1 hm) (but_set5 _ _ _ _ _ _ _).size, below_set5 HB9.out (by omega) _ _ _ _ _⟩
        | exact ⟨w9.heap.size, ro, rn, rm, rg, roff, rfl, hz9, Has5.new rfl Q.x0 Q.y0 Q.x1 Q.y1 ro rn rm 26, HO9.out.1.below ((Below.refl _ _).alloc (Nat.le_refl _) _), HO9.out.2.1, fun hm => Nat.lt_of_lt_of_le (HO9.out.2.2.1 hm) (Nat.le_of_lt (lt_alloc _ _)), HB9.out.alloc hz9 _⟩
    case rest =>
      obtain ⟨kr, ro, rn, rm, rg, roff, rfl, hkr, hR10, hO10, hrg, hrl, hB10⟩ := hcut
      obtain ⟨w10, rfl⟩ : ∃ w10, w10 = wc := ⟨_, rfl⟩
      clear hS
      have HR10 := hid hR10
      have HO10 := hid hO10
      have HA10 := hid (HA5.out.below hB10)
      have HS10 := hid (HS5.out.below hB10)
      have HRL := hid hrl
      have hz10 := hB10.size
      clear hR10 hO10 hB10 HA5 HS5 hrl
      obtain ⟨r0, r1, r2, r3, r4, rf⟩ := HR10.out
      rcases HP.out with ⟨m1, m2, m3⟩ | ⟨m1, m2, m3, m4⟩
      · have HE : Hid (empB ⟨Q.x0, Q.y0, Q.x1, Q.y1⟩ = true) := by show empB Q = true; rw [m2]; rfl
        have HMM := hid m3
        clear m1 m2 m3
        go_wp2_with (go_at_call 37; with_reducible refine Calls.mono (Rc.empty_any Q.x0 Q.y0 Q.x1 Q.y1 _) ?_; rintro e w11 ⟨rfl, hb11⟩; rw [HE.out]; have HS11 := hid (HS10.out.below hb11); clear hb11; obtain ⟨h0, h1, h2, h3, h4, hf⟩ := HS11.out.h; obtain ⟨z0, z1, z2, z3, z4, zf⟩ := HS11.out.z)
        obtain ⟨s0, s1, s2, s3, s4⟩ := set5 z0 z1 z2 z3 z4 (.int .i64 Z.x0) (.int .i64 Z.y0) (.int .i64 Z.x1) (.int .i64 Z.y1) (.slice no nn nm)
        refine bodyPost_ret (v := .agg #[.int .i64 Z.x0, .int .i64 Z.y0, .int .i64 Z.x1, .int .i64 Z.y1, .slice no nn nm]) (by simp [results, Try.results55, go_sem, s0, s1, s2, s3, s4]) rfl ⟨⟨_, _, _, ng, noff, rfl, ?_⟩, ?_⟩
        · rw [← HMM.out]
          exact HS11.out.o.but (but_set5 _ _ _ _ _ _ _) (fun hm => Ne.symm (HS11.out.ne hm).2.1)
        · exact below_set5 HS11.out.low (by omega) _ _ _ _ _
      · have HE : Hid (empB ⟨Q.x0, Q.y0, Q.x1, Q.y1⟩ = false) := m3
        have HPL := hid m2
        have hQ0 : 0 < wid Q * hei Q := by obtain ⟨a1, a2⟩ := of_some m3; exact Nat.mul_pos (by unfold wid; omega) (by unfold hei; omega)
        have hrn : rn = wid Q * hei Q := by have := vx_len HO10.out.v; rw [img_len] at this; exact this.symm
        have hnn : nn = wid Z * hei Z := by have := vx_len HS10.out.o.v; rw [img_len] at this; exact this.symm
        have hrn5 : rn ≤ 5000 := by have h1 := size_of m2.oq m3 m4; omega
        have hZs : 0 < nn ∧ nn ≤ 5000 := by
          have a1 := m2.lay.ax
          have a2 := m2.lay.ay
          have h0 : 0 < wid Z * hei Z := Nat.mul_pos (by unfold wid; omega) (by unfold hei; omega)
          have := HNN.out
          omega
        obtain rfl : ro = some ⟨rg, roff, none⟩ := HO10.out.v.addr (by have := HO10.out.v.le; omega)
        obtain rfl : no = some ⟨ng, noff, none⟩ := HS10.out.o.v.addr (by have := HS10.out.o.v.le; omega)
        have hnm0 : 0 < nm := by have := HS10.out.o.v.le; omega
        have hrm0 : 0 < rm := by have := HO10.out.v.le; omega
        have HNG : Hid (ng < w5.heap.size) := HNL.out hnm0
        have HBY : Hid (∀ x y, byteX (rowG (atX B f) rx x y)) := fun x y => row_byte (fun a b => at_byte HH.out.2.2.2.2.2 a b) rx x y
        clear m1 m2 m3 m4 hrn hnn hQ0
        have hZ5 := hZs.2
        clear hZs
        go_wp2_with (first
          | (go_at_call 37; with_reducible refine Calls.mono (Rc.empty_any Q.x0 Q.y0 Q.x1 Q.y1 _) ?_; rintro e w11 ⟨rfl, hb11⟩; rw [HE.out]; have HS11 := hid (HS10.out.below hb11); have HR11 := hid (HR10.out.below hb11); have HO11 := hid (HO10.out.below hb11); have HA11 := hid (HA10.out.below hb11); have hz11 := hb11.size; clear hb11; obtain ⟨h0, h1, h2, h3, h4, hf⟩ := HS11.out.h; obtain ⟨r0, r1, r2, r3, r4, rf⟩ := HR11.out; obtain ⟨a0, a1, a2, a3, af⟩ := HA11.out)
          | (go_at_call 75; with_reducible refine Calls.mono (columns_any w.heap.size ng noff nn nm Z (fun _ _ => noX) rg roff rn rm Q (rowG (atX B f) rx) M ry _ HPL.out.lay hZ5 hrn5 HS11.out.o HO11.out.v (HS11.out.o.new hnm0).2 (HO11.out.new hrm0).2 (ne_before HNG.out hrg) HBY.out) ?_; rintro e w12 ⟨rfl, ho12, hb12⟩; have HO12 := hid (And.intro ho12 hb12); have HH12 := hid (HS11.out.h.but hb12 (HS11.out.ne hnm0).2.2); have HZ12 := hid (HS11.out.z.but hb12 (HS11.out.ne hnm0).2.1); clear ho12 hb12 h0 h1 h2 h3 h4 hf; obtain ⟨h0, h1, h2, h3, h4, hf⟩ := HH12.out; obtain ⟨z0, z1, z2, z3, z4, zf⟩ := HZ12.out))
        obtain ⟨s0, s1, s2, s3, s4⟩ := set5 z0 z1 z2 z3 z4 (.int .i64 Z.x0) (.int .i64 Z.y0) (.int .i64 Z.x1) (.int .i64 Z.y1) (.slice (some ⟨ng, noff, none⟩) nn nm)
        refine bodyPost_ret (v := .agg #[.int .i64 Z.x0, .int .i64 Z.y0, .int .i64 Z.x1, .int .i64 Z.y1, .slice (some ⟨ng, noff, none⟩) nn nm]) (by simp [results, Try.results55, go_sem, s0, s1, s2, s3, s4]) rfl ⟨⟨_, _, _, ng, noff, rfl, ?_⟩, ?_⟩
        · rw [← plan_img HPL.out f]
          exact HO12.out.1.but (but_set5 _ _ _ _ _ _ _) (fun hm => Ne.symm (HS11.out.ne hm).2.1)
        · exact below_set5 (HS11.out.low.trans (HO12.out.2.low HS11.out.lo HS11.out.low.size)) (by omega) _ _ _ _ _
end Go.Proofs.Ytfgfgfmimejpdaa
