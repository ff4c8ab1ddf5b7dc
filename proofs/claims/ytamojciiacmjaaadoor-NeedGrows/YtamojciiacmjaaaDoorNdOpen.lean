/- How a rectangle that is handed in is read; what stands while a law is walked. -/
import Derived.Test.YtamojciiacmjaaaDoorOpen
import Derived.Test.YtamojciiacmjaaaDoorNdAwk
namespace Go.Proofs.YtamojciiacmjaaaDoor
open Num Go.ChangeShapes Go.WideShapes Go.ChangeAt Go.RowKit Go.Deep
open Rg.Num (R empB orN nil moveR grow meet join mvd mx mn cutR Ok Pr boxQ hasB)
set_option linter.unusedVariables false
set_option linter.unusedSimpArgs false
set_option maxRecDepth 100000

theorem cells26 : Tryd.prog.cellsOf 26 = 4 := by kernel_rfl
theorem list4 {α : Type} (l : List α) (h : (⟨l⟩ : Array α).size = 4) : ∃ a b c d, l = [a, b, c, d] := by
  match l, h with
  | [a, b, c, d], _ => exact ⟨a, b, c, d, rfl⟩
theorem open_rect {H : Type} {enc : TypeId × Value → H} {W : World} {base : Nat} {v : Value} {d : DataW H} {p : List MemPlace}
    (hv : Value.okWide Tryd.prog W .any base 26 v) (h : DataW.Trod enc Tryd.prog W 0 (fun _ => true) true 26 v d p) : ∃ a b c d' : Int, v = .agg #[.int .i64 a, .int .i64 b, .int .i64 c, .int .i64 d'] := by
  obtain ⟨cs, rfl, hsz⟩ := okWide_struct Tryd.underlying26 hv
  rw [cells26] at hsz
  obtain ⟨l⟩ := cs
  obtain ⟨c0, c1, c2, c3, rfl⟩ := list4 l hsz
  obtain ⟨fuel, hf⟩ := h
  obtain ⟨xs, n, _, hx, hl, hlen, hg⟩ := DataW.trod_struct Tryd.underlying26 hf
  match xs, hlen with
  | [y0, y1, y2, y3], _ =>
    have g0 := hg 0 _ rfl
    have g1 := hg 1 _ rfl
    have g2 := hg 2 _ rfl
    have g3 := hg 3 _ rfl
    simp [cells3, Value.cells] at g0 g1 g2 g3
    obtain ⟨x0, e0, -, -⟩ := DataW.trod_int Tryd.underlying3 g0
    obtain ⟨x1, e1, -, -⟩ := DataW.trod_int Tryd.underlying3 g1
    obtain ⟨x2, e2, -, -⟩ := DataW.trod_int Tryd.underlying3 g2
    obtain ⟨x3, e3, -, -⟩ := DataW.trod_int Tryd.underlying3 g3
    simp at e0 e1 e2 e3
    subst e0 e1 e2 e3
    exact ⟨x0, x1, x2, x3, rfl⟩

/-- the filter's box and the rectangle's -/
structure Lg (w wr : World) (ao : Option Addr) (n c : Nat) (out : Int) (p q r s : Int) : Prop where
  g : Sg w ao n c out wr
  s : Rg.Rc.Has4 wr (w.heap.size + 1) (.int .i64 p) (.int .i64 q) (.int .i64 r) (.int .i64 s)
section
variable {w wr w' : World} {ao : Option Addr} {n c : Nat} {out : Int} {p q r s : Int}
theorem Lg.to (h : Lg w wr ao n c out p q r s) (hb : Below wr.heap.size wr w') : Lg w w' ao n c out p q r s := ⟨sg_below h.g hb, h.s.below hb⟩
theorem lg_new (w : World) (ao : Option Addr) (n c : Nat) (out p q r s : Int) : Lg w ((w.alloc (.cells #[.slice ao n c, .int .i64 out] 36)).alloc (.cells #[.int .i64 p, .int .i64 q, .int .i64 r, .int .i64 s] 26)) ao n c out p q r s :=
  ⟨sg_below (sg_new w ao n c out 36) (al _), Rg.Rc.Has4.new (by simp) _ _ _ _ _⟩
theorem Lg.low (h : Lg w wr ao n c out p q r s) : Below w.heap.size w wr := h.g.2
end
theorem ok_right {a b c d : Int} (h : Rg.Num.rightB ⟨a, b, c, d⟩ = true) : Ok ⟨a, b, c, d⟩ := Rg.Num.of_right h
end Go.Proofs.YtamojciiacmjaaaDoor
