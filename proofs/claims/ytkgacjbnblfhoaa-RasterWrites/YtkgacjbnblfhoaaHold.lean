/- Buffers that live on while others are made and written. -/
import Derived.Test.YtkgacjbnblfhoaaAwake
namespace Go.Proofs.Ytkgacjbnblfhoaa
open Num Go.RowKit
set_option linter.unusedVariables false
set_option linter.unusedSimpArgs false

/-- a buffer in the block k, its pixels its own; all of it ahead of the block T -/
structure Bf (T k : Nat) (B : R) (lo : Nat) (ao : Option Addr) (n m g off : Nat) (l : List X) (w : World) : Prop where
  h : Has5 w k B ao n m
  o : Ox lo w ao n m g off l
  lt : k < T
  gt : 0 < m → g < T
  ge : lo ≤ g
  kg : 0 < m → k ≠ g
  sz : T ≤ w.heap.size
theorem Bf.below {T k : Nat} {B : R} {lo : Nat} {ao : Option Addr} {n m g off : Nat} {l : List X} {w w' : World} (x : Bf T k B lo ao n m g off l w) (hb : Below w.heap.size w w') : Bf T k B lo ao n m g off l w' :=
  ⟨x.h.below hb, x.o.below hb, x.lt, x.gt, x.ge, x.kg, Nat.le_trans x.sz hb.size⟩
theorem Bf.but {T k : Nat} {B : R} {lo : Nat} {ao : Option Addr} {n m g off : Nat} {l : List X} {w w' : World} (x : Bf T k B lo ao n m g off l w) {j : Nat} (hb : But j w w') (hj : T ≤ j) : Bf T k B lo ao n m g off l w' :=
  ⟨x.h.but hb (by have := x.lt; omega), x.o.but hb (fun hm => by have := x.gt hm; omega), x.lt, x.gt, x.ge, x.kg, Nat.le_trans x.sz hb.size⟩
/-- a buffer that was answered, put into a new block -/
theorem bf_new {lo : Nat} {w : World} {B : R} {ao : Option Addr} {n m g off : Nat} {l : List X} (hO : Ox lo w ao n m g off l) (hg : lo ≤ g) (hgl : 0 < m → g < w.heap.size) :
    Bf (w.heap.size + 1) w.heap.size B lo ao n m g off l (w.alloc (.cells #[.int .i64 B.x0, .int .i64 B.y0, .int .i64 B.x1, .int .i64 B.y1, .slice ao n m] 26)) :=
  ⟨Has5.new rfl _ _ _ _ _ _ _ _, hO.below ((Below.refl _ _).alloc (Nat.le_refl _) _), Nat.lt_succ_self _, fun hm => Nat.lt_succ_of_lt (hgl hm), hg, fun hm => Nat.ne_of_gt (hgl hm), by simp⟩
/-- .. written -/
theorem Bf.wrote {T k : Nat} {B : R} {lo : Nat} {ao : Option Addr} {n m g off : Nat} {l l' : List X} {w w' : World} (x : Bf T k B lo ao n m g off l w) (h5 : Has5 w' k B ao n m) (hO : Ox lo w' ao n m g off l') (hb : But g w w') : Bf T k B lo ao n m g off l' w' :=
  ⟨h5, hO, x.lt, x.gt, x.ge, x.kg, Nat.le_trans x.sz hb.size⟩

/-- what is handed in, in blocks of one's own: two buffers, a rectangle -/
structure Bx (W : World) (B F A : R) (ao : Option Addr) (n m : Nat) (fo : Option Addr) (fn fm : Nat) (w : World) : Prop where
  b : Has5 w W.heap.size B ao n m
  f : Has5 w (W.heap.size + 1) F fo fn fm
  r : Rc.Has4 w (W.heap.size + 1 + 1) (.int .i64 A.x0) (.int .i64 A.y0) (.int .i64 A.x1) (.int .i64 A.y1)
  low : Below W.heap.size W w
  sz : W.heap.size + 1 + 1 + 1 ≤ w.heap.size
theorem Bx.below {W : World} {B F A : R} {ao : Option Addr} {n m : Nat} {fo : Option Addr} {fn fm : Nat} {w w' : World} (x : Bx W B F A ao n m fo fn fm w) (hb : Below w.heap.size w w') : Bx W B F A ao n m fo fn fm w' :=
  ⟨x.b.below hb, x.f.below hb, x.r.below hb, x.low.trans (hb.mono x.low.size), Nat.le_trans x.sz hb.size⟩
theorem Bx.but {W : World} {B F A : R} {ao : Option Addr} {n m : Nat} {fo : Option Addr} {fn fm : Nat} {w w' : World} (x : Bx W B F A ao n m fo fn fm w) {j : Nat} (hb : But j w w') (hj : W.heap.size + 1 + 1 + 1 ≤ j) : Bx W B F A ao n m fo fn fm w' :=
  ⟨x.b.but hb (by omega), x.f.but hb (by omega), has4_but x.r hb (by omega), x.low.trans (hb.low (by omega) x.low.size), Nat.le_trans x.sz hb.size⟩
theorem bx_new (W : World) (B F A : R) (ao : Option Addr) (n m : Nat) (fo : Option Addr) (fn fm : Nat) :
    Bx W B F A ao n m fo fn fm (((W.alloc (.cells #[.int .i64 B.x0, .int .i64 B.y0, .int .i64 B.x1, .int .i64 B.y1, .slice ao n m] 26)).alloc (.cells #[.int .i64 F.x0, .int .i64 F.y0, .int .i64 F.x1, .int .i64 F.y1, .slice fo fn fm] 26)).alloc (.cells #[.int .i64 A.x0, .int .i64 A.y0, .int .i64 A.x1, .int .i64 A.y1] 23)) :=
  ⟨((Has5.new rfl _ _ _ _ _ _ _ _).alloc _).alloc _, (Has5.new (by simp) _ _ _ _ _ _ _ _).alloc _, Rc.Has4.new (by simp) _ _ _ _ _, (((Below.refl _ _).alloc (Nat.le_refl _) _).alloc (by simp) _).alloc (by simp; omega) _, by simp⟩

/-- what a right buffer is -/
structure Bu (B : R) (n : Nat) (l : List X) : Prop where
  small : n ≤ 2000
  buf : bufB B n = true
  img : l = img B (unimg B l)
  ok : Ok B
  emp : B = nil ∨ empB B = false
  len : n = wid B * hei B
theorem bu_of {w : World} {ao : Option Addr} {n m g off : Nat} {l : List X} {B : R} (h : Vx w ao n m g off l) (hr : rightS B n = true) : Bu B n l := by
  unfold rightS at hr
  rw [Bool.and_eq_true] at hr
  have h1 := of_decide_eq_true hr.1
  have hl := vx_len h
  rcases buf_cases hr.2 with ⟨e1, e2, e3⟩ | ⟨e1, e2, e3⟩
  · have hn : n = wid B * hei B := by rw [e2, e3]; rfl
    exact ⟨h1, hr.2, img_of (by omega), by rw [e2]; exact ok_nil, Or.inl e2, hn⟩
  · have hn : n = wid B * hei B := by
      have := area_len e1 (by omega)
      omega
    exact ⟨h1, hr.2, img_of (by omega), ok_of_right e2, Or.inr e1, hn⟩
theorem little_of {A : R} (h : littleB A 5000 = true) : Ok A ∧ area A ≤ 5000 := by
  unfold littleB at h
  rw [Bool.and_eq_true] at h
  exact ⟨ok_of_right h.1, of_decide_eq_true h.2⟩
end Go.Proofs.Ytkgacjbnblfhoaa
