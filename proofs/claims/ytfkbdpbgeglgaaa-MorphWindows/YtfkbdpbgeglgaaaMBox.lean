/- The least and the greatest in a box: the contracts. -/
import Derived.Test.YtfkbdpbgeglgaaaFillN
import Derived.Test.YtfkbdpbgeglgaaaRightB
namespace Go.Proofs.Ytfkbdpbgeglgaaa
open Num Go.RowKit
set_option linter.unusedVariables false
set_option linter.unusedSimpArgs false

theorem radius_any (r : Nat) (hr : r ≤ 255) (w : World) : Calls Try.prog 39 #[.int .i64 (r : Int)] w fun e w' => e = .returned (.bool true) ∧ w' = w := by
  have h1 : (0 : Int) ≤ (r : Int) := by omega
  have h2 : (r : Int) ≤ 255 := by omega
  go_enter Try.func39, Try.ntmps39
  go_wp2
  go_ret
  exact ⟨rfl, rfl⟩
theorem usable_yes (B : R) (ao : Option Addr) (n m rx ry : Nat) (w : World) (hn : n ≤ 5000) (hB : bufB B n = true) (hx : rx ≤ 255) (hy : ry ≤ 255) :
    Calls Try.prog 22 #[.agg #[.int .i64 B.x0, .int .i64 B.y0, .int .i64 B.x1, .int .i64 B.y1, .slice ao n m], .int .i64 (rx : Int), .int .i64 (ry : Int)] w fun e w' => e = .returned (.bool true) ∧ Below w.heap.size w w' := by
  have hn64 : n ≤ 9223372036854775807 := by omega
  have HB := hid hB
  go_enter Try.func22, Try.ntmps22
  go_wp2_with (first
    | (go_at_call 38; with_reducible refine Calls.mono (rasterRight_yes B.x0 B.y0 B.x1 B.y1 ao n m _ hn64 HB.out) ?_; rintro e w2 ⟨rfl, hb2⟩)
    | (go_at_call 39; with_reducible refine Calls.mono (radius_any rx hx _) ?_; rintro e w3 ⟨rfl, hw3⟩; replace hw3 := hw3.symm; subst hw3)
    | (go_at_call 39; with_reducible refine Calls.mono (radius_any ry hy _) ?_; rintro e w4 ⟨rfl, hw4⟩; replace hw4 := hw4.symm; subst hw4))
  go_ret
  exact ⟨rfl, Rc.via ((Below.refl _ _).alloc (Nat.le_refl _) _) hb2⟩

theorem fill_v (lo ng noff nn nm : Nat) (no : Option Addr) (Z : R) (F G : Int → Int → X) (ao : Option Addr) (n m g off : Nat) (B : R) (f : Int → Int → X) (M : R) (rx ry : Nat) (t : Bool) (tu : Int) (w : World) (htu : tu = tv t) (hOB : Ok B) (hy : ry ≤ 255) (hnn : nn ≤ 5000) (hn : n ≤ 5000)
    (hP : (M = nil ∧ img Z F = img Z G) ∨ (Fit Z B M rx ry ∧ area (rowsQ B M ry) ≤ 5000 ∧ img Z (colsG M (colE t (rowsQ B M ry) (rowE t B f rx) ry) F M.x1) = img Z G))
    (hO : Ox lo w no nn nm ng noff (img Z F)) (hV : Vx w ao n m g off (img B f)) (hne : 0 < n → 0 < nm → g ≠ ng) (hb : ∀ x y, byteX (f x y)) :
    Calls Try.prog 23 #[.agg #[.int .i64 Z.x0, .int .i64 Z.y0, .int .i64 Z.x1, .int .i64 Z.y1, .slice no nn nm], .agg #[.int .i64 M.x0, .int .i64 M.y0, .int .i64 M.x1, .int .i64 M.y1], .agg #[.int .i64 B.x0, .int .i64 B.y0, .int .i64 B.x1, .int .i64 B.y1, .slice ao n m], .int .i64 (rx : Int), .int .i64 (ry : Int), .int .u8 tu] w fun e w' => e = .returned (.tuple #[]) ∧ Ox lo w' no nn nm ng noff (img Z G) ∧ (Below w.heap.size w w' ∨ (0 < nm ∧ But ng w w')) := by
  subst htu
  exact fill_or lo ng noff nn nm no Z F G ao n m g off B f M rx ry t w hOB hy hnn hn hP hO hV hne hb

/-- the buffers while a box is made -/
structure Bs (w : World) (k4 k8 k9 : Nat) (B Z : R) (ao : Option Addr) (n m g off : Nat) (no : Option Addr) (nn nm ng noff : Nat) (f F : Int → Int → X) (wr : World) : Prop where
  s : Has5 wr k4 B ao n m
  z : Has5 wr k8 ⟨0, 0, 0, 0⟩ none 0 0
  h : Has5 wr k9 Z no nn nm
  o : Ox w.heap.size wr no nn nm ng noff (img Z F)
  v : Vx wr ao n m g off (img B f)
  low : Below w.heap.size w wr
  lo : w.heap.size ≤ ng
  ne : 0 < nm → k4 ≠ ng ∧ k8 ≠ ng ∧ k9 ≠ ng
  nv : 0 < n → 0 < nm → g ≠ ng
section
variable {w : World} {k4 k8 k9 : Nat} {B Z : R} {ao : Option Addr} {n m g off : Nat} {no : Option Addr} {nn nm ng noff : Nat} {f F : Int → Int → X} {wr wr' : World}
theorem Bs.below (h : Bs w k4 k8 k9 B Z ao n m g off no nn nm ng noff f F wr) (hb : Below wr.heap.size wr wr') : Bs w k4 k8 k9 B Z ao n m g off no nn nm ng noff f F wr' :=
  ⟨h.s.below hb, h.z.below hb, h.h.below hb, h.o.below hb, h.v.below hb, Rc.via h.low hb, h.lo, h.ne, h.nv⟩
theorem Bs.fill (h : Bs w k4 k8 k9 B Z ao n m g off no nn nm ng noff f F wr) {G : Int → Int → X} (ho : Ox w.heap.size wr' no nn nm ng noff (img Z G)) (hb : Below wr.heap.size wr wr' ∨ (0 < nm ∧ But ng wr wr')) : Bs w k4 k8 k9 B Z ao n m g off no nn nm ng noff f G wr' := by
  rcases hb with hb | ⟨h0, hb⟩
  · exact ⟨h.s.below hb, h.z.below hb, h.h.below hb, ho, h.v.below hb, Rc.via h.low hb, h.lo, h.ne, h.nv⟩
  · obtain ⟨e1, e2, e3⟩ := h.ne h0
    refine ⟨h.s.but hb e1, h.z.but hb e2, h.h.but hb e3, ho, ?_, h.low.trans (hb.low h.lo h.low.size), h.lo, h.ne, h.nv⟩
    by_cases hn : 0 < n
    · exact h.v.but hb (h.nv hn h0)
    · have hl := h.v.len
      have : flat (img B f) = [] := List.length_eq_zero_iff.1 (by rw [hl]; omega)
      exact ⟨hl, h.v.le, h.v.max, h.v.addr, by rw [this]; exact lies_nil _ _ _⟩
end
theorem has4_or {ng nm : Nat} {w w' : World} {k : Nat} {v0 v1 v2 v3 : Value} (h : Rc.Has4 w k v0 v1 v2 v3) (hb : Below w.heap.size w w' ∨ (0 < nm ∧ But ng w w')) (hk : 0 < nm → k ≠ ng) : Rc.Has4 w' k v0 v1 v2 v3 := by
  rcases hb with hb | ⟨h0, hb⟩
  · exact h.below hb
  · exact has4_but h hb (hk h0)

set_option maxRecDepth 100000 in
set_option maxHeartbeats 8000000 in
theorem most_any (B : R) (ao : Option Addr) (n m g off : Nat) (f : Int → Int → X) (D : R) (rx ry : Nat) (w : World) (hB : bufB B n = true) (hn : n ≤ 5000) (hV : Vx w ao n m g off (img B f)) (hb : ∀ x y, byteX (f x y)) (hX : Half D) (ha : area (grow D (rx : Int) (ry : Int) (rx : Int) (ry : Int)) ≤ 5000) (hx : rx ≤ 255) (hy : ry ≤ 255) :
    Calls Try.prog 14 #[.agg #[.int .i64 B.x0, .int .i64 B.y0, .int .i64 B.x1, .int .i64 B.y1, .slice ao n m], .agg #[.int .i64 D.x0, .int .i64 D.y0, .int .i64 D.x1, .int .i64 D.y1], .int .i64 (rx : Int), .int .i64 (ry : Int)] w fun e w' => RetB w.heap.size w' e (orN D) (img (orN D) (morX false (atX B f) rx ry)) ∧ Below w.heap.size w w' := by
  obtain ⟨Z, hZ⟩ : ∃ Z, Z = orN D := ⟨_, rfl⟩
  have HZ : Hid (orN ⟨D.x0, D.y0, D.x1, D.y1⟩ = Z) := hZ.symm
  have hZn : Z = nil ∨ empB Z = false := by
    rw [hZ]
    rcases he : empB D with _ | _
    · rw [orN_no he]; exact .inr he
    · rw [orN_yes he]; exact .inl rfl
  have hZh : Half Z := by
    rw [hZ]
    rcases orN_or D with e | e <;> rw [e]
    · unfold Half nil; decide
    · exact hX
  have hOB : Ok B ∧ (B = nil ∨ empB B = false) := by
    rcases buf_cases hB with ⟨-, h2, -⟩ | ⟨h1, h2, -⟩
    · exact ⟨by rw [h2]; exact ok_nil, .inl h2⟩
    · exact ⟨ok_of_right h2, .inr h1⟩
  have hXa : area D ≤ 5000 := Int.le_trans (grow_area hX hx hy) ha
  have hOk := hOB.1
  obtain ⟨I, hI⟩ : ∃ I : R, I = grow ⟨B.x0, B.y0, B.x1, B.y1⟩ (rx : Int) (ry : Int) (rx : Int) (ry : Int) := ⟨_, rfl⟩
  obtain ⟨M, hM⟩ : ∃ M, M = areaT false Z B rx ry := ⟨_, rfl⟩
  have HI : Hid (grow ⟨B.x0, B.y0, B.x1, B.y1⟩ (rx : Int) (ry : Int) (rx : Int) (ry : Int) = I) := hI.symm
  have HM : Hid (meet ⟨Z.x0, Z.y0, Z.x1, Z.y1⟩ ⟨I.x0, I.y0, I.x1, I.y1⟩ = M) := by
    show meet Z I = M
    rw [hM, hI]
    rfl
  have HP : Hid ((M = nil ∧ img Z (fun _ _ => noX) = img Z (morX false (atX B f) rx ry)) ∨ (Fit Z B M rx ry ∧ area (rowsQ B M ry) ≤ 5000 ∧ img Z (colsG M (colE false (rowsQ B M ry) (rowE false B f rx) ry) (fun _ _ => noX) M.x1) = img Z (morX false (atX B f) rx ry))) := by
    have hP := plan_or (t := false) (B := B) (Z := Z) (rx := rx) (ry := ry) hOB.1 hOB.2 hZh hZn hx hy hb
    rw [← hM] at hP
    rcases hP with h1 | ⟨h1, h2, h3⟩
    · exact .inl h1
    · refine .inr ⟨h2, ?_, h3⟩
      have h4 := rows_area h2 hZh
      have k1 := h2.mx
      rcases orN_or D with e2 | e2
      · rw [hZ, e2] at k1
        unfold nil at k1
        dsimp only at k1
        omega
      · rw [hZ, e2] at h4
        omega
  have HNN : Hid (wid Z * hei Z ≤ 5000) := by have := buf_new hX.ok hXa; rw [← hZ] at this; exact this.2.1
  have HH := hid (And.intro hV (And.intro hOB.1 (And.intro hX.ok (And.intro hXa (And.intro hB hb)))))
  have HC : Hid (((0 : Int) ≤ (rx : Int) ∧ (rx : Int) ≤ 4398046511104) ∧ ((0 : Int) ≤ (ry : Int) ∧ (ry : Int) ≤ 4398046511104)) := ⟨by omega, by omega⟩
  have HA : Hid (Has5 (((w.alloc (.cells #[.int .i64 B.x0, .int .i64 B.y0, .int .i64 B.x1, .int .i64 B.y1, .slice ao n m] 26)).alloc (.cells #[.int .i64 D.x0, .int .i64 D.y0, .int .i64 D.x1, .int .i64 D.y1] 23)).alloc (.cells #[.int .i64 0, .int .i64 0, .int .i64 0, .int .i64 0, .slice none 0 0] 26)) w.heap.size B ao n m ∧ Rc.Has4 (((w.alloc (.cells #[.int .i64 B.x0, .int .i64 B.y0, .int .i64 B.x1, .int .i64 B.y1, .slice ao n m] 26)).alloc (.cells #[.int .i64 D.x0, .int .i64 D.y0, .int .i64 D.x1, .int .i64 D.y1] 23)).alloc (.cells #[.int .i64 0, .int .i64 0, .int .i64 0, .int .i64 0, .slice none 0 0] 26)) (w.heap.size + 1) (.int .i64 D.x0) (.int .i64 D.y0) (.int .i64 D.x1) (.int .i64 D.y1) ∧ Has5 (((w.alloc (.cells #[.int .i64 B.x0, .int .i64 B.y0, .int .i64 B.x1, .int .i64 B.y1, .slice ao n m] 26)).alloc (.cells #[.int .i64 D.x0, .int .i64 D.y0, .int .i64 D.x1, .int .i64 D.y1] 23)).alloc (.cells #[.int .i64 0, .int .i64 0, .int .i64 0, .int .i64 0, .slice none 0 0] 26)) (w.heap.size + 1 + 1) ⟨0, 0, 0, 0⟩ none 0 0 ∧ Below w.heap.size w (((w.alloc (.cells #[.int .i64 B.x0, .int .i64 B.y0, .int .i64 B.x1, .int .i64 B.y1, .slice ao n m] 26)).alloc (.cells #[.int .i64 D.x0, .int .i64 D.y0, .int .i64 D.x1, .int .i64 D.y1] 23)).alloc (.cells #[.int .i64 0, .int .i64 0, .int .i64 0, .int .i64 0, .slice none 0 0] 26)) ∧ ((((w.alloc (.cells #[.int .i64 B.x0, .int .i64 B.y0, .int .i64 B.x1, .int .i64 B.y1, .slice ao n m] 26)).alloc (.cells #[.int .i64 D.x0, .int .i64 D.y0, .int .i64 D.x1, .int .i64 D.y1] 23)).alloc (.cells #[.int .i64 0, .int .i64 0, .int .i64 0, .int .i64 0, .slice none 0 0] 26))).heap.size = w.heap.size + 1 + 1 + 1) :=
    ⟨((Has5.new rfl _ _ _ _ _ _ _ _).alloc _).alloc _, (Rc.Has4.new (by simp) _ _ _ _ _).alloc _, Has5.new (by simp) _ _ _ _ _ _ _ _, (((Below.refl _ _).alloc (Nat.le_refl _) _).alloc (by simp) _).alloc (by simp; omega) _, by simp⟩
  have HVL : Hid (0 < n → g < w.heap.size) := fun h => vx_lt hV h
  obtain ⟨q0, q1, q2, q3, qf⟩ := HA.out.2.1
  rw [← hZ]
  clear hZ hZn hOB hXa hM hI hV hb hX ha hB hZh
  have HBS : Hid (∀ (w1 : World) no nn nm ng noff, Below ((((w.alloc (.cells #[.int .i64 B.x0, .int .i64 B.y0, .int .i64 B.x1, .int .i64 B.y1, .slice ao n m] 26)).alloc (.cells #[.int .i64 D.x0, .int .i64 D.y0, .int .i64 D.x1, .int .i64 D.y1] 23)).alloc (.cells #[.int .i64 0, .int .i64 0, .int .i64 0, .int .i64 0, .slice none 0 0] 26))).heap.size (((w.alloc (.cells #[.int .i64 B.x0, .int .i64 B.y0, .int .i64 B.x1, .int .i64 B.y1, .slice ao n m] 26)).alloc (.cells #[.int .i64 D.x0, .int .i64 D.y0, .int .i64 D.x1, .int .i64 D.y1] 23)).alloc (.cells #[.int .i64 0, .int .i64 0, .int .i64 0, .int .i64 0, .slice none 0 0] 26)) w1 → Ox ((((w.alloc (.cells #[.int .i64 B.x0, .int .i64 B.y0, .int .i64 B.x1, .int .i64 B.y1, .slice ao n m] 26)).alloc (.cells #[.int .i64 D.x0, .int .i64 D.y0, .int .i64 D.x1, .int .i64 D.y1] 23)).alloc (.cells #[.int .i64 0, .int .i64 0, .int .i64 0, .int .i64 0, .slice none 0 0] 26))).heap.size w1 no nn nm ng noff (img Z fun _ _ => noX) → ((((w.alloc (.cells #[.int .i64 B.x0, .int .i64 B.y0, .int .i64 B.x1, .int .i64 B.y1, .slice ao n m] 26)).alloc (.cells #[.int .i64 D.x0, .int .i64 D.y0, .int .i64 D.x1, .int .i64 D.y1] 23)).alloc (.cells #[.int .i64 0, .int .i64 0, .int .i64 0, .int .i64 0, .slice none 0 0] 26))).heap.size ≤ ng → (0 < nm → ng < w1.heap.size) → Bs w w.heap.size (w.heap.size + 1 + 1) w1.heap.size B Z ao n m g off no nn nm ng noff f (fun _ _ => noX) (w1.alloc (.cells #[.int .i64 Z.x0, .int .i64 Z.y0, .int .i64 Z.x1, .int .i64 Z.y1, .slice no nn nm] 26))) := by
    intro w1 no nn nm ng noff h1 hO h2 h4
    rw [HA.out.2.2.2.2] at h2
    have hal : Below w1.heap.size w1 (w1.alloc (.cells #[.int .i64 Z.x0, .int .i64 Z.y0, .int .i64 Z.x1, .int .i64 Z.y1, .slice no nn nm] 26)) := (Below.refl _ _).alloc (Nat.le_refl _) _
    refine ⟨(HA.out.1.below h1).below hal, (HA.out.2.2.1.below h1).below hal, Has5.new rfl _ _ _ _ _ _ _ _, (hO.below hal).mono (by rw [HA.out.2.2.2.2]; omega), (HH.out.1.below (Rc.via HA.out.2.2.2.1 h1)).below hal, Rc.via (Rc.via HA.out.2.2.2.1 h1) hal, by omega, fun hm => ?_, fun hn0 hm => ?_⟩
    · have := h4 hm
      omega
    · have := HVL.out hn0
      omega
  go_enter Try.func14, Try.ntmps14
  go_wp2_with (first
    | (go_at_call 21; with_reducible refine Calls.mono (new_any D.x0 D.y0 D.x1 D.y1 _ HH.out.2.2.1 HH.out.2.2.2.1) ?_; rintro e w1 ⟨hr, hb1⟩; rw [HZ.out] at hr; obtain ⟨no, nn, nm, ng, noff, rfl, hO, hg1, hg2, hln⟩ := retG hr; have HS := hid (HBS.out w1 no nn nm ng noff hb1 hO hg1 hg2); have hnn2 : nn ≤ 5000 := (by have := HNN.out; rw [img_len] at hln; omega); have hk9 : w.heap.size + 1 + 1 < w1.heap.size := (by have := hb1.size; rw [HA.out.2.2.2.2] at this; omega); have HNG := hid hg2; clear hr hb1 hO hg1 hg2 hln q0 q1 q2 q3 qf; obtain ⟨s0, s1, s2, s3, s4, sf⟩ := HS.out.s)
    | (go_at_call 22; with_reducible refine Calls.mono (usable_yes B ao n m rx ry _ hn HH.out.2.2.2.2.1 hx hy) ?_; rintro e w2 ⟨rfl, hb2⟩; have HS2 := hid (HS.out.below hb2); clear hb2 s0 s1 s2 s3 s4 sf; obtain ⟨s0, s1, s2, s3, s4, sf⟩ := HS2.out.s)
    | (go_at_call 28; with_reducible refine Calls.mono (Rc.grow_any B.x0 B.y0 B.x1 B.y1 (rx : Int) (ry : Int) (rx : Int) (ry : Int) _ HH.out.2.1 HC.out.1 HC.out.2 HC.out.1 HC.out.2) ?_; rintro e w3 ⟨rfl, hb3⟩; rw [HI.out]; have HS3 := hid (HS2.out.below hb3); clear hb3))
  have HS5 := hid (HS3.out.below ((Below.refl w3.heap.size w3).alloc (Nat.le_refl _) (.cells #[.int .i64 I.x0, .int .i64 I.y0, .int .i64 I.x1, .int .i64 I.y1] 23)))
  have HI4 := hid (Rc.Has4.new (W := w3) (k := w3.heap.size) rfl (.int .i64 I.x0) (.int .i64 I.y0) (.int .i64 I.x1) (.int .i64 I.y1) 23)
  have HKN : Hid (0 < nm → w3.heap.size ≠ ng) := fun h => by have h1 := HNG.out h; have h2 := HS3.out.h.lt; omega
  clear HS HS2 HS3 HBS HA s0 s1 s2 s3 s4 sf HNG
  generalize w3.alloc (.cells #[.int .i64 I.x0, .int .i64 I.y0, .int .i64 I.x1, .int .i64 I.y1] 23) = W5 at HS5 HI4 ⊢
  generalize w3.heap.size = k10 at HI4 HKN ⊢
  generalize w1.heap.size = k9 at HS5 hk9 ⊢
  have hS := s14_of HS5.out.h HS5.out.s HI4.out
  go_region_held3 (fun w' => (w'.cell? ⟨k9, 0, none⟩ = some (.int .i64 Z.x0) ∧ w'.cell? ⟨k9, 1, none⟩ = some (.int .i64 Z.y0) ∧ w'.cell? ⟨k9, 2, none⟩ = some (.int .i64 Z.x1) ∧ w'.cell? ⟨k9, 3, none⟩ = some (.int .i64 Z.y1) ∧ w'.cell? ⟨k9, 4, none⟩ = some (.slice no nn nm)) ∧ (w'.cell? ⟨w.heap.size, 0, none⟩ = some (.int .i64 B.x0) ∧ w'.cell? ⟨w.heap.size, 1, none⟩ = some (.int .i64 B.y0) ∧ w'.cell? ⟨w.heap.size, 2, none⟩ = some (.int .i64 B.x1) ∧ w'.cell? ⟨w.heap.size, 3, none⟩ = some (.int .i64 B.y1) ∧ w'.cell? ⟨w.heap.size, 4, none⟩ = some (.slice ao n m)) ∧ (w'.cell? ⟨k10, 0, none⟩ = some (.int .i64 I.x0) ∧ w'.cell? ⟨k10, 1, none⟩ = some (.int .i64 I.y0) ∧ w'.cell? ⟨k10, 2, none⟩ = some (.int .i64 I.x1) ∧ w'.cell? ⟨k10, 3, none⟩ = some (.int .i64 I.y1))) (repeat (first | with_reducible assumption | with_reducible refine s14_drew ?_ | with_reducible refine s14_below ?_ ‹_›))
    ((first
      | (go_at_call 24; with_reducible refine Calls.mono (Rc.meet_any Z.x0 Z.y0 Z.x1 Z.y1 I.x0 I.y0 I.x1 I.y1 _) ?_; rintro e w6 ⟨rfl, hb6⟩; rw [HM.out]; have HB6 := hid (Rc.via ((Below.refl W5.heap.size W5).drew) hb6); have HS6 := hid (HS5.out.below HB6.out); have HI6 := hid (HI4.out.below HB6.out))
      | (go_at_call 23; with_reducible refine Calls.mono (fill_v w.heap.size ng noff nn nm no Z (fun _ _ => noX) (morX false (atX B f) rx ry) ao n m g off B f M rx ry false 0 _ rfl HH.out.2.1 hy hnn2 hn HP.out HS6.out.o HS6.out.v HS6.out.nv HH.out.2.2.2.2.2) ?_; rintro e w7 ⟨rfl, ho7, hb7⟩; have HS7 := hid (HS6.out.fill ho7 hb7); have HI7 := hid (has4_or HI6.out hb7 HKN.out); clear ho7 hb7; have hS7 := s14_of HS7.out.h HS7.out.s HI7.out; obtain ⟨h0, h1, h2, h3, h4, hf⟩ := HS7.out.h; obtain ⟨z0, z1, z2, z3, z4, zf⟩ := HS7.out.z)))
  go_wp2
  obtain ⟨s0, s1, s2, s3, s4⟩ := set5 z0 z1 z2 z3 z4 (.int .i64 Z.x0) (.int .i64 Z.y0) (.int .i64 Z.x1) (.int .i64 Z.y1) (.slice no nn nm)
  refine bodyPost_ret (v := .agg #[.int .i64 Z.x0, .int .i64 Z.y0, .int .i64 Z.x1, .int .i64 Z.y1, .slice no nn nm]) (by simp [results, Try.results14, go_sem, s0, s1, s2, s3, s4]) rfl ⟨⟨_, _, _, ng, noff, rfl, ?_⟩, ?_⟩
  · exact HS7.out.o.but (but_set5 _ _ _ _ _ _ _) (fun hm => Ne.symm (HS7.out.ne hm).2.1)
  · exact below_set5 HS7.out.low (by omega) _ _ _ _ _

set_option maxRecDepth 100000 in
set_option maxHeartbeats 8000000 in
theorem least_any (B : R) (ao : Option Addr) (n m g off : Nat) (f : Int → Int → X) (D : R) (rx ry : Nat) (w : World) (hB : bufB B n = true) (hn : n ≤ 5000) (hV : Vx w ao n m g off (img B f)) (hb : ∀ x y, byteX (f x y)) (hX : Half D) (ha : area (grow D (rx : Int) (ry : Int) (rx : Int) (ry : Int)) ≤ 5000) (hx : rx ≤ 255) (hy : ry ≤ 255) :
    Calls Try.prog 12 #[.agg #[.int .i64 B.x0, .int .i64 B.y0, .int .i64 B.x1, .int .i64 B.y1, .slice ao n m], .agg #[.int .i64 D.x0, .int .i64 D.y0, .int .i64 D.x1, .int .i64 D.y1], .int .i64 (rx : Int), .int .i64 (ry : Int)] w fun e w' => RetB w.heap.size w' e (orN D) (img (orN D) (morX true (atX B f) rx ry)) ∧ Below w.heap.size w w' := by
  obtain ⟨Z, hZ⟩ : ∃ Z, Z = orN D := ⟨_, rfl⟩
  have HZ : Hid (orN ⟨D.x0, D.y0, D.x1, D.y1⟩ = Z) := hZ.symm
  have hZn : Z = nil ∨ empB Z = false := by
    rw [hZ]
    rcases he : empB D with _ | _
    · rw [orN_no he]; exact .inr he
    · rw [orN_yes he]; exact .inl rfl
  have hZh : Half Z := by
    rw [hZ]
    rcases orN_or D with e | e <;> rw [e]
    · unfold Half nil; decide
    · exact hX
  have hOB : Ok B ∧ (B = nil ∨ empB B = false) := by
    rcases buf_cases hB with ⟨-, h2, -⟩ | ⟨h1, h2, -⟩
    · exact ⟨by rw [h2]; exact ok_nil, .inl h2⟩
    · exact ⟨ok_of_right h2, .inr h1⟩
  have hXa : area D ≤ 5000 := Int.le_trans (grow_area hX hx hy) ha
  have hOk := hOB.1
  obtain ⟨I, hI⟩ : ∃ I : R, I = ⟨B.x0 + (rx : Int), B.y0 + (ry : Int), B.x1 - (rx : Int), B.y1 - (ry : Int)⟩ := ⟨_, rfl⟩
  have hw0 : IntKind.i64.wrap (B.x0 + (rx : Int)) = I.x0 := by rw [hI, IntKind.wrap_i64]; dsimp only; unfold Ok at hOk; omega
  have hw1 : IntKind.i64.wrap (B.y0 + (ry : Int)) = I.y0 := by rw [hI, IntKind.wrap_i64]; dsimp only; unfold Ok at hOk; omega
  have hw2 : IntKind.i64.wrap (B.x1 - (rx : Int)) = I.x1 := by rw [hI, IntKind.wrap_i64]; dsimp only; unfold Ok at hOk; omega
  have hw3 : IntKind.i64.wrap (B.y1 - (ry : Int)) = I.y1 := by rw [hI, IntKind.wrap_i64]; dsimp only; unfold Ok at hOk; omega
  obtain ⟨M, hM⟩ : ∃ M, M = areaT true Z B rx ry := ⟨_, rfl⟩
  have HI : Hid (⟨B.x0 + (rx : Int), B.y0 + (ry : Int), B.x1 - (rx : Int), B.y1 - (ry : Int)⟩ = I) := hI.symm
  have HM : Hid (meet ⟨Z.x0, Z.y0, Z.x1, Z.y1⟩ ⟨I.x0, I.y0, I.x1, I.y1⟩ = M) := by
    show meet Z I = M
    rw [hM, hI]
    rfl
  have HP : Hid ((M = nil ∧ img Z (fun _ _ => noX) = img Z (morX true (atX B f) rx ry)) ∨ (Fit Z B M rx ry ∧ area (rowsQ B M ry) ≤ 5000 ∧ img Z (colsG M (colE true (rowsQ B M ry) (rowE true B f rx) ry) (fun _ _ => noX) M.x1) = img Z (morX true (atX B f) rx ry))) := by
    have hP := plan_or (t := true) (B := B) (Z := Z) (rx := rx) (ry := ry) hOB.1 hOB.2 hZh hZn hx hy hb
    rw [← hM] at hP
    rcases hP with h1 | ⟨h1, h2, h3⟩
    · exact .inl h1
    · refine .inr ⟨h2, ?_, h3⟩
      have h4 := rows_area h2 hZh
      have k1 := h2.mx
      rcases orN_or D with e2 | e2
      · rw [hZ, e2] at k1
        unfold nil at k1
        dsimp only at k1
        omega
      · rw [hZ, e2] at h4
        omega
  have HNN : Hid (wid Z * hei Z ≤ 5000) := by have := buf_new hX.ok hXa; rw [← hZ] at this; exact this.2.1
  have HH := hid (And.intro hV (And.intro hOB.1 (And.intro hX.ok (And.intro hXa (And.intro hB hb)))))
  have HC : Hid (((0 : Int) ≤ (rx : Int) ∧ (rx : Int) ≤ 4398046511104) ∧ ((0 : Int) ≤ (ry : Int) ∧ (ry : Int) ≤ 4398046511104)) := ⟨by omega, by omega⟩
  have HA : Hid (Has5 (((w.alloc (.cells #[.int .i64 B.x0, .int .i64 B.y0, .int .i64 B.x1, .int .i64 B.y1, .slice ao n m] 26)).alloc (.cells #[.int .i64 D.x0, .int .i64 D.y0, .int .i64 D.x1, .int .i64 D.y1] 23)).alloc (.cells #[.int .i64 0, .int .i64 0, .int .i64 0, .int .i64 0, .slice none 0 0] 26)) w.heap.size B ao n m ∧ Rc.Has4 (((w.alloc (.cells #[.int .i64 B.x0, .int .i64 B.y0, .int .i64 B.x1, .int .i64 B.y1, .slice ao n m] 26)).alloc (.cells #[.int .i64 D.x0, .int .i64 D.y0, .int .i64 D.x1, .int .i64 D.y1] 23)).alloc (.cells #[.int .i64 0, .int .i64 0, .int .i64 0, .int .i64 0, .slice none 0 0] 26)) (w.heap.size + 1) (.int .i64 D.x0) (.int .i64 D.y0) (.int .i64 D.x1) (.int .i64 D.y1) ∧ Has5 (((w.alloc (.cells #[.int .i64 B.x0, .int .i64 B.y0, .int .i64 B.x1, .int .i64 B.y1, .slice ao n m] 26)).alloc (.cells #[.int .i64 D.x0, .int .i64 D.y0, .int .i64 D.x1, .int .i64 D.y1] 23)).alloc (.cells #[.int .i64 0, .int .i64 0, .int .i64 0, .int .i64 0, .slice none 0 0] 26)) (w.heap.size + 1 + 1) ⟨0, 0, 0, 0⟩ none 0 0 ∧ Below w.heap.size w (((w.alloc (.cells #[.int .i64 B.x0, .int .i64 B.y0, .int .i64 B.x1, .int .i64 B.y1, .slice ao n m] 26)).alloc (.cells #[.int .i64 D.x0, .int .i64 D.y0, .int .i64 D.x1, .int .i64 D.y1] 23)).alloc (.cells #[.int .i64 0, .int .i64 0, .int .i64 0, .int .i64 0, .slice none 0 0] 26)) ∧ ((((w.alloc (.cells #[.int .i64 B.x0, .int .i64 B.y0, .int .i64 B.x1, .int .i64 B.y1, .slice ao n m] 26)).alloc (.cells #[.int .i64 D.x0, .int .i64 D.y0, .int .i64 D.x1, .int .i64 D.y1] 23)).alloc (.cells #[.int .i64 0, .int .i64 0, .int .i64 0, .int .i64 0, .slice none 0 0] 26))).heap.size = w.heap.size + 1 + 1 + 1) :=
    ⟨((Has5.new rfl _ _ _ _ _ _ _ _).alloc _).alloc _, (Rc.Has4.new (by simp) _ _ _ _ _).alloc _, Has5.new (by simp) _ _ _ _ _ _ _ _, (((Below.refl _ _).alloc (Nat.le_refl _) _).alloc (by simp) _).alloc (by simp; omega) _, by simp⟩
  have HVL : Hid (0 < n → g < w.heap.size) := fun h => vx_lt hV h
  obtain ⟨q0, q1, q2, q3, qf⟩ := HA.out.2.1
  rw [← hZ]
  clear hZ hZn hOB hXa hM hI hV hb hX ha hB hZh
  have HBS : Hid (∀ (w1 : World) no nn nm ng noff, Below ((((w.alloc (.cells #[.int .i64 B.x0, .int .i64 B.y0, .int .i64 B.x1, .int .i64 B.y1, .slice ao n m] 26)).alloc (.cells #[.int .i64 D.x0, .int .i64 D.y0, .int .i64 D.x1, .int .i64 D.y1] 23)).alloc (.cells #[.int .i64 0, .int .i64 0, .int .i64 0, .int .i64 0, .slice none 0 0] 26))).heap.size (((w.alloc (.cells #[.int .i64 B.x0, .int .i64 B.y0, .int .i64 B.x1, .int .i64 B.y1, .slice ao n m] 26)).alloc (.cells #[.int .i64 D.x0, .int .i64 D.y0, .int .i64 D.x1, .int .i64 D.y1] 23)).alloc (.cells #[.int .i64 0, .int .i64 0, .int .i64 0, .int .i64 0, .slice none 0 0] 26)) w1 → Ox ((((w.alloc (.cells #[.int .i64 B.x0, .int .i64 B.y0, .int .i64 B.x1, .int .i64 B.y1, .slice ao n m] 26)).alloc (.cells #[.int .i64 D.x0, .int .i64 D.y0, .int .i64 D.x1, .int .i64 D.y1] 23)).alloc (.cells #[.int .i64 0, .int .i64 0, .int .i64 0, .int .i64 0, .slice none 0 0] 26))).heap.size w1 no nn nm ng noff (img Z fun _ _ => noX) → ((((w.alloc (.cells #[.int .i64 B.x0, .int .i64 B.y0, .int .i64 B.x1, .int .i64 B.y1, .slice ao n m] 26)).alloc (.cells #[.int .i64 D.x0, .int .i64 D.y0, .int .i64 D.x1, .int .i64 D.y1] 23)).alloc (.cells #[.int .i64 0, .int .i64 0, .int .i64 0, .int .i64 0, .slice none 0 0] 26))).heap.size ≤ ng → (0 < nm → ng < w1.heap.size) → Bs w w.heap.size (w.heap.size + 1 + 1) w1.heap.size B Z ao n m g off no nn nm ng noff f (fun _ _ => noX) (w1.alloc (.cells #[.int .i64 Z.x0, .int .i64 Z.y0, .int .i64 Z.x1, .int .i64 Z.y1, .slice no nn nm] 26))) := by
    intro w1 no nn nm ng noff h1 hO h2 h4
    rw [HA.out.2.2.2.2] at h2
    have hal : Below w1.heap.size w1 (w1.alloc (.cells #[.int .i64 Z.x0, .int .i64 Z.y0, .int .i64 Z.x1, .int .i64 Z.y1, .slice no nn nm] 26)) := (Below.refl _ _).alloc (Nat.le_refl _) _
    refine ⟨(HA.out.1.below h1).below hal, (HA.out.2.2.1.below h1).below hal, Has5.new rfl _ _ _ _ _ _ _ _, (hO.below hal).mono (by rw [HA.out.2.2.2.2]; omega), (HH.out.1.below (Rc.via HA.out.2.2.2.1 h1)).below hal, Rc.via (Rc.via HA.out.2.2.2.1 h1) hal, by omega, fun hm => ?_, fun hn0 hm => ?_⟩
    · have := h4 hm
      omega
    · have := HVL.out hn0
      omega
  go_enter Try.func12, Try.ntmps12
  go_wp2_with (first
    | (go_at_call 21; with_reducible refine Calls.mono (new_any D.x0 D.y0 D.x1 D.y1 _ HH.out.2.2.1 HH.out.2.2.2.1) ?_; rintro e w1 ⟨hr, hb1⟩; rw [HZ.out] at hr; obtain ⟨no, nn, nm, ng, noff, rfl, hO, hg1, hg2, hln⟩ := retG hr; have HS := hid (HBS.out w1 no nn nm ng noff hb1 hO hg1 hg2); have hnn2 : nn ≤ 5000 := (by have := HNN.out; rw [img_len] at hln; omega); have hk9 : w.heap.size + 1 + 1 < w1.heap.size := (by have := hb1.size; rw [HA.out.2.2.2.2] at this; omega); have HNG := hid hg2; clear hr hb1 hO hg1 hg2 hln q0 q1 q2 q3 qf; obtain ⟨s0, s1, s2, s3, s4, sf⟩ := HS.out.s)
    | (go_at_call 22; with_reducible refine Calls.mono (usable_yes B ao n m rx ry _ hn HH.out.2.2.2.2.1 hx hy) ?_; rintro e w2 ⟨rfl, hb2⟩; have HS2 := hid (HS.out.below hb2); clear hb2 s0 s1 s2 s3 s4 sf; obtain ⟨s0, s1, s2, s3, s4, sf⟩ := HS2.out.s))
  have HS5 := hid (HS2.out.below ((Below.refl w2.heap.size w2).alloc (Nat.le_refl _) (.cells #[.int .i64 I.x0, .int .i64 I.y0, .int .i64 I.x1, .int .i64 I.y1] 23)))
  have HI4 := hid (Rc.Has4.new (W := w2) (k := w2.heap.size) rfl (.int .i64 I.x0) (.int .i64 I.y0) (.int .i64 I.x1) (.int .i64 I.y1) 23)
  have HKN : Hid (0 < nm → w2.heap.size ≠ ng) := fun h => by have h1 := HNG.out h; have h2 := HS2.out.h.lt; omega
  clear HS HS2 HBS HA s0 s1 s2 s3 s4 sf HNG
  generalize w2.alloc (.cells #[.int .i64 I.x0, .int .i64 I.y0, .int .i64 I.x1, .int .i64 I.y1] 23) = W5 at HS5 HI4 ⊢
  generalize w2.heap.size = k10 at HI4 HKN ⊢
  generalize w1.heap.size = k9 at HS5 hk9 ⊢
  have hS := s14_of HS5.out.h HS5.out.s HI4.out
  go_region_held3 (fun w' => (w'.cell? ⟨k9, 0, none⟩ = some (.int .i64 Z.x0) ∧ w'.cell? ⟨k9, 1, none⟩ = some (.int .i64 Z.y0) ∧ w'.cell? ⟨k9, 2, none⟩ = some (.int .i64 Z.x1) ∧ w'.cell? ⟨k9, 3, none⟩ = some (.int .i64 Z.y1) ∧ w'.cell? ⟨k9, 4, none⟩ = some (.slice no nn nm)) ∧ (w'.cell? ⟨w.heap.size, 0, none⟩ = some (.int .i64 B.x0) ∧ w'.cell? ⟨w.heap.size, 1, none⟩ = some (.int .i64 B.y0) ∧ w'.cell? ⟨w.heap.size, 2, none⟩ = some (.int .i64 B.x1) ∧ w'.cell? ⟨w.heap.size, 3, none⟩ = some (.int .i64 B.y1) ∧ w'.cell? ⟨w.heap.size, 4, none⟩ = some (.slice ao n m)) ∧ (w'.cell? ⟨k10, 0, none⟩ = some (.int .i64 I.x0) ∧ w'.cell? ⟨k10, 1, none⟩ = some (.int .i64 I.y0) ∧ w'.cell? ⟨k10, 2, none⟩ = some (.int .i64 I.x1) ∧ w'.cell? ⟨k10, 3, none⟩ = some (.int .i64 I.y1))) (repeat (first | with_reducible assumption | with_reducible refine s14_drew ?_ | with_reducible refine s14_below ?_ ‹_›))
    ((first
      | (go_at_call 24; with_reducible refine Calls.mono (Rc.meet_any Z.x0 Z.y0 Z.x1 Z.y1 I.x0 I.y0 I.x1 I.y1 _) ?_; rintro e w6 ⟨rfl, hb6⟩; rw [HM.out]; have HB6 := hid (Rc.via ((Below.refl W5.heap.size W5).drew) hb6); have HS6 := hid (HS5.out.below HB6.out); have HI6 := hid (HI4.out.below HB6.out))
      | (go_at_call 23; with_reducible refine Calls.mono (fill_v w.heap.size ng noff nn nm no Z (fun _ _ => noX) (morX true (atX B f) rx ry) ao n m g off B f M rx ry true 255 _ rfl HH.out.2.1 hy hnn2 hn HP.out HS6.out.o HS6.out.v HS6.out.nv HH.out.2.2.2.2.2) ?_; rintro e w7 ⟨rfl, ho7, hb7⟩; have HS7 := hid (HS6.out.fill ho7 hb7); have HI7 := hid (has4_or HI6.out hb7 HKN.out); clear ho7 hb7; have hS7 := s14_of HS7.out.h HS7.out.s HI7.out; obtain ⟨h0, h1, h2, h3, h4, hf⟩ := HS7.out.h; obtain ⟨z0, z1, z2, z3, z4, zf⟩ := HS7.out.z)))
  go_wp2
  obtain ⟨s0, s1, s2, s3, s4⟩ := set5 z0 z1 z2 z3 z4 (.int .i64 Z.x0) (.int .i64 Z.y0) (.int .i64 Z.x1) (.int .i64 Z.y1) (.slice no nn nm)
  refine bodyPost_ret (v := .agg #[.int .i64 Z.x0, .int .i64 Z.y0, .int .i64 Z.x1, .int .i64 Z.y1, .slice no nn nm]) (by simp [results, Try.results12, go_sem, s0, s1, s2, s3, s4]) rfl ⟨⟨_, _, _, ng, noff, rfl, ?_⟩, ?_⟩
  · exact HS7.out.o.but (but_set5 _ _ _ _ _ _ _) (fun hm => Ne.symm (HS7.out.ne hm).2.1)
  · exact below_set5 HS7.out.low (by omega) _ _ _ _ _
end Go.Proofs.Ytfkbdpbgeglgaaa
