/- What the laws share: a buffer and a box that are handed in. -/
import Derived.Test.YtfkbdpbgeglgaaaFine
import Derived.Test.YtfkbdpbgeglgaaaAwake
import Derived.Test.YtfkbdpbgeglgaaaRBoxH
namespace Go.Proofs.Ytfkbdpbgeglgaaa
open Num Go.RowKit
set_option linter.unusedVariables false
set_option linter.unusedSimpArgs false

/-- what is handed in, in blocks of one's own -/
structure Kx (W : World) (B D : R) (ao : Option Addr) (n m : Nat) (w : World) : Prop where
  b : Has5 w W.heap.size B ao n m
  d : Rc.Has4 w (W.heap.size + 1) (.int .i64 D.x0) (.int .i64 D.y0) (.int .i64 D.x1) (.int .i64 D.y1)
  low : Below W.heap.size W w
  sz : W.heap.size + 1 + 1 ≤ w.heap.size
theorem Kx.below {W : World} {B D : R} {ao : Option Addr} {n m : Nat} {w w' : World} (x : Kx W B D ao n m w) (hb : Below w.heap.size w w') : Kx W B D ao n m w' :=
  ⟨x.b.below hb, x.d.below hb, x.low.trans (hb.mono x.low.size), Nat.le_trans x.sz hb.size⟩
theorem Kx.but {W : World} {B D : R} {ao : Option Addr} {n m : Nat} {w w' : World} (x : Kx W B D ao n m w) {j : Nat} (hb : But j w w') (hj : W.heap.size + 1 + 1 ≤ j) : Kx W B D ao n m w' :=
  ⟨x.b.but hb (by omega), has4_but x.d hb (by omega), x.low.trans (hb.low (by omega) x.low.size), Nat.le_trans x.sz hb.size⟩
theorem kx_new (W : World) (B D : R) (ao : Option Addr) (n m : Nat) :
    Kx W B D ao n m ((W.alloc (.cells #[.int .i64 B.x0, .int .i64 B.y0, .int .i64 B.x1, .int .i64 B.y1, .slice ao n m] 26)).alloc (.cells #[.int .i64 D.x0, .int .i64 D.y0, .int .i64 D.x1, .int .i64 D.y1] 23)) :=
  ⟨(Has5.new rfl _ _ _ _ _ _ _ _).alloc _, Rc.Has4.new (by simp) _ _ _ _ _, ((Below.refl _ _).alloc (Nat.le_refl _) _).alloc (by simp) _, by simp⟩

/-- what a fine buffer and box are -/
structure Bu (B : R) (n : Nat) (l : List X) (D : R) (a b : Nat) : Prop where
  n5 : n ≤ 5000
  buf : bufB B n = true
  im : l = img B (unimg B l)
  byt : ∀ x y, byteX (unimg B l x y)
  ok : Ok B
  half : Half D
  few : area (grow D (a : Int) (b : Int) (a : Int) (b : Int)) ≤ 5000
  a : a ≤ 255
  b : b ≤ 255
theorem bu_of {w : World} {ao : Option Addr} {n m g off : Nat} {l : List X} {B D : R} {rx ry : Int} {a b : Nat} (h : Vx w ao n m g off l) (hp : ∀ p, p ∈ l → byteX p) (hg : Good8 B n D rx ry a b) : Bu B n l D a b := by
  have hl := vx_len h
  have h3 := hg.hn
  have h4 := hg.few
  have h5 := hg.ha
  have h6 := hg.hb
  have hby : ∀ x y, byteX (unimg B l x y) := by
    intro x y
    unfold unimg
    rw [List.getD_eq_getElem?_getD]
    cases he : l[posN B x y]? with
    | none => exact byte_no
    | some p => exact hp p (List.mem_of_getElem? he)
  rcases buf_cases hg.buf with ⟨e1, e2, e3⟩ | ⟨e1, e2, e3⟩
  · have hn : n = wid B * hei B := by rw [e2, e3]; rfl
    exact ⟨by omega, hg.buf, img_of (by omega), hby, by rw [e2]; exact ok_nil, hg.half, by omega, by omega, by omega⟩
  · have hn : n = wid B * hei B := by
      have := area_len e1 (by omega)
      omega
    exact ⟨by omega, hg.buf, img_of (by omega), hby, ok_of_right e2, hg.half, by omega, by omega, by omega⟩
theorem mor1_0 (t : Bool) (U : Int → Int → Int) (x y : Int) : mor1 t U 0 0 x y = U x y := by
  show U (x - ((0 : Nat) : Int)) (y - ((0 : Nat) : Int)) = U x y
  rw [show x - ((0 : Nat) : Int) = x by omega, show y - ((0 : Nat) : Int) = y by omega]
theorem mor_0 (t : Bool) (g : Int → Int → X) (x y : Int) : morX t g 0 0 x y = g x y := by
  unfold morX
  apply X_ext
  · exact mor1_0 t (fun u v => (g u v).c0) x y
  · exact mor1_0 t (fun u v => (g u v).c1) x y
  · exact mor1_0 t (fun u v => (g u v).c2) x y
  · exact mor1_0 t (fun u v => (g u v).c3) x y
theorem area_00 {D : R} (hX : Half D) (ha : area D ≤ 5000) : area (grow D ((0 : Nat) : Int) ((0 : Nat) : Int) ((0 : Nat) : Int) ((0 : Nat) : Int)) ≤ 5000 := by
  have : grow D ((0 : Nat) : Int) ((0 : Nat) : Int) ((0 : Nat) : Int) ((0 : Nat) : Int) = orN D := by
    rcases eD : empB D with _ | _
    · obtain ⟨d1, d2⟩ := of_some eD
      have h3 := (growY (D := D) (ry := 0) hX (by omega)).2.2.1 eD
      rw [orN_no eD]
      refine Eq.trans h3 ?_
      apply R_ext <;> dsimp only <;> omega
    · rw [orN_yes eD]
      exact (growY (D := D) (ry := 0) hX (by omega)).2.2.2 eD
  rw [this]
  rcases orN_or D with e | e <;> rw [e]
  · decide
  · exact ha
/-- by the second radius nought, by both -/
theorem most_a0 (B : R) (ao : Option Addr) (n m g off : Nat) (f : Int → Int → X) (D : R) (a : Nat) (w : World) (hB : bufB B n = true) (hn : n ≤ 5000) (hV : Vx w ao n m g off (img B f)) (hb : ∀ x y, byteX (f x y)) (hX : Half D) (ha : area (grow D (a : Int) 0 (a : Int) 0) ≤ 5000) (hx : a ≤ 255) :
    Calls Try.prog 14 #[.agg #[.int .i64 B.x0, .int .i64 B.y0, .int .i64 B.x1, .int .i64 B.y1, .slice ao n m], .agg #[.int .i64 D.x0, .int .i64 D.y0, .int .i64 D.x1, .int .i64 D.y1], .int .i64 (a : Int), .int .i64 0] w fun e w' => RetB w.heap.size w' e (orN D) (img (orN D) (morX false (atX B f) a 0)) ∧ Below w.heap.size w w' :=
  most_any B ao n m g off f D a 0 w hB hn hV hb hX ha hx (by omega)
theorem most_00 (B : R) (ao : Option Addr) (n m g off : Nat) (f : Int → Int → X) (D : R) (w : World) (hB : bufB B n = true) (hn : n ≤ 5000) (hV : Vx w ao n m g off (img B f)) (hb : ∀ x y, byteX (f x y)) (hX : Half D) (ha : area D ≤ 5000) :
    Calls Try.prog 14 #[.agg #[.int .i64 B.x0, .int .i64 B.y0, .int .i64 B.x1, .int .i64 B.y1, .slice ao n m], .agg #[.int .i64 D.x0, .int .i64 D.y0, .int .i64 D.x1, .int .i64 D.y1], .int .i64 0, .int .i64 0] w fun e w' => RetB w.heap.size w' e (orN D) (img (orN D) (atX B f)) ∧ Below w.heap.size w w' := by
  have h := most_any B ao n m g off f D 0 0 w hB hn hV hb hX (area_00 hX ha) (by omega) (by omega)
  rw [show morX false (atX B f) 0 0 = atX B f from funext fun x => funext fun y => mor_0 false _ x y] at h
  exact h
/-- by the second radius nought, by both -/
theorem least_a0 (B : R) (ao : Option Addr) (n m g off : Nat) (f : Int → Int → X) (D : R) (a : Nat) (w : World) (hB : bufB B n = true) (hn : n ≤ 5000) (hV : Vx w ao n m g off (img B f)) (hb : ∀ x y, byteX (f x y)) (hX : Half D) (ha : area (grow D (a : Int) 0 (a : Int) 0) ≤ 5000) (hx : a ≤ 255) :
    Calls Try.prog 12 #[.agg #[.int .i64 B.x0, .int .i64 B.y0, .int .i64 B.x1, .int .i64 B.y1, .slice ao n m], .agg #[.int .i64 D.x0, .int .i64 D.y0, .int .i64 D.x1, .int .i64 D.y1], .int .i64 (a : Int), .int .i64 0] w fun e w' => RetB w.heap.size w' e (orN D) (img (orN D) (morX true (atX B f) a 0)) ∧ Below w.heap.size w w' :=
  least_any B ao n m g off f D a 0 w hB hn hV hb hX ha hx (by omega)
theorem least_00 (B : R) (ao : Option Addr) (n m g off : Nat) (f : Int → Int → X) (D : R) (w : World) (hB : bufB B n = true) (hn : n ≤ 5000) (hV : Vx w ao n m g off (img B f)) (hb : ∀ x y, byteX (f x y)) (hX : Half D) (ha : area D ≤ 5000) :
    Calls Try.prog 12 #[.agg #[.int .i64 B.x0, .int .i64 B.y0, .int .i64 B.x1, .int .i64 B.y1, .slice ao n m], .agg #[.int .i64 D.x0, .int .i64 D.y0, .int .i64 D.x1, .int .i64 D.y1], .int .i64 0, .int .i64 0] w fun e w' => RetB w.heap.size w' e (orN D) (img (orN D) (atX B f)) ∧ Below w.heap.size w w' := by
  have h := least_any B ao n m g off f D 0 0 w hB hn hV hb hX (area_00 hX ha) (by omega) (by omega)
  rw [show morX true (atX B f) 0 0 = atX B f from funext fun x => funext fun y => mor_0 true _ x y] at h
  exact h
end Go.Proofs.Ytfkbdpbgeglgaaa
