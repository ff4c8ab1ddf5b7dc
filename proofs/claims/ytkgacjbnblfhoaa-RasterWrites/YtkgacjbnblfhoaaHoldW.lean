/- Two buffers, a rectangle and a pixel that are handed in, in blocks of one's own. -/
import Derived.Test.YtkgacjbnblfhoaaHold
namespace Go.Proofs.Ytkgacjbnblfhoaa
open Num Go.RowKit
set_option linter.unusedVariables false
set_option linter.unusedSimpArgs false

structure By (W : World) (B F A : R) (p : X) (ao : Option Addr) (n m : Nat) (fo : Option Addr) (fn fm : Nat) (w : World) : Prop where
  b : Has5 w W.heap.size B ao n m
  f : Has5 w (W.heap.size + 1) F fo fn fm
  r : Rc.Has4 w (W.heap.size + 1 + 1) (.int .i64 A.x0) (.int .i64 A.y0) (.int .i64 A.x1) (.int .i64 A.y1)
  p : Rc.Has4 w (W.heap.size + 1 + 1 + 1) (.int .u8 p.c0) (.int .u8 p.c1) (.int .u8 p.c2) (.int .u8 p.c3)
  low : Below W.heap.size W w
  sz : W.heap.size + 1 + 1 + 1 + 1 ≤ w.heap.size
theorem By.below {W : World} {B F A : R} {p : X} {ao : Option Addr} {n m : Nat} {fo : Option Addr} {fn fm : Nat} {w w' : World} (x : By W B F A p ao n m fo fn fm w) (hb : Below w.heap.size w w') : By W B F A p ao n m fo fn fm w' :=
  ⟨x.b.below hb, x.f.below hb, x.r.below hb, x.p.below hb, x.low.trans (hb.mono x.low.size), Nat.le_trans x.sz hb.size⟩
theorem By.but {W : World} {B F A : R} {p : X} {ao : Option Addr} {n m : Nat} {fo : Option Addr} {fn fm : Nat} {w w' : World} (x : By W B F A p ao n m fo fn fm w) {j : Nat} (hb : But j w w') (hj : W.heap.size + 1 + 1 + 1 + 1 ≤ j) : By W B F A p ao n m fo fn fm w' :=
  ⟨x.b.but hb (by omega), x.f.but hb (by omega), has4_but x.r hb (by omega), has4_but x.p hb (by omega), x.low.trans (hb.low (by omega) x.low.size), Nat.le_trans x.sz hb.size⟩
theorem by_new (W : World) (B F A : R) (p : X) (ao : Option Addr) (n m : Nat) (fo : Option Addr) (fn fm : Nat) :
    By W B F A p ao n m fo fn fm ((((W.alloc (.cells #[.int .i64 B.x0, .int .i64 B.y0, .int .i64 B.x1, .int .i64 B.y1, .slice ao n m] 26)).alloc (.cells #[.int .i64 F.x0, .int .i64 F.y0, .int .i64 F.x1, .int .i64 F.y1, .slice fo fn fm] 26)).alloc (.cells #[.int .i64 A.x0, .int .i64 A.y0, .int .i64 A.x1, .int .i64 A.y1] 23)).alloc (.cells #[.int .u8 p.c0, .int .u8 p.c1, .int .u8 p.c2, .int .u8 p.c3] 28)) :=
  ⟨(((Has5.new rfl _ _ _ _ _ _ _ _).alloc _).alloc _).alloc _, ((Has5.new (by simp) _ _ _ _ _ _ _ _).alloc _).alloc _, (Rc.Has4.new (by simp) _ _ _ _ _).alloc _, Rc.Has4.new (by simp) _ _ _ _ _, ((((Below.refl _ _).alloc (Nat.le_refl _) _).alloc (by simp) _).alloc (by simp; omega) _).alloc (by simp; omega) _, by simp⟩

/-- the cells that the last statement reads -/
abbrev Sw (s kf kc : Nat) (B F A : R) (p : X) (ao : Option Addr) (n m : Nat) (fo : Option Addr) (fn fm : Nat) (fo1 : Option Addr) (fk : Nat) (co : Option Addr) (ck : Nat) (w' : World) : Prop := w'.cell? ⟨s, 0, none⟩ = some (.int .i64 B.x0) ∧ w'.cell? ⟨s, 1, none⟩ = some (.int .i64 B.y0) ∧ w'.cell? ⟨s, 2, none⟩ = some (.int .i64 B.x1) ∧ w'.cell? ⟨s, 3, none⟩ = some (.int .i64 B.y1) ∧ w'.cell? ⟨s, 4, none⟩ = some (.slice ao n m) ∧ w'.cell? ⟨(s + 1), 0, none⟩ = some (.int .i64 F.x0) ∧ w'.cell? ⟨(s + 1), 1, none⟩ = some (.int .i64 F.y0) ∧ w'.cell? ⟨(s + 1), 2, none⟩ = some (.int .i64 F.x1) ∧ w'.cell? ⟨(s + 1), 3, none⟩ = some (.int .i64 F.y1) ∧ w'.cell? ⟨(s + 1), 4, none⟩ = some (.slice fo fn fm) ∧ w'.cell? ⟨(s + 1 + 1), 0, none⟩ = some (.int .i64 A.x0) ∧ w'.cell? ⟨(s + 1 + 1), 1, none⟩ = some (.int .i64 A.y0) ∧ w'.cell? ⟨(s + 1 + 1), 2, none⟩ = some (.int .i64 A.x1) ∧ w'.cell? ⟨(s + 1 + 1), 3, none⟩ = some (.int .i64 A.y1) ∧ w'.cell? ⟨(s + 1 + 1 + 1), 0, none⟩ = some (.int .u8 p.c0) ∧ w'.cell? ⟨(s + 1 + 1 + 1), 1, none⟩ = some (.int .u8 p.c1) ∧ w'.cell? ⟨(s + 1 + 1 + 1), 2, none⟩ = some (.int .u8 p.c2) ∧ w'.cell? ⟨(s + 1 + 1 + 1), 3, none⟩ = some (.int .u8 p.c3) ∧ w'.cell? ⟨kf, 0, none⟩ = some (.int .i64 B.x0) ∧ w'.cell? ⟨kf, 1, none⟩ = some (.int .i64 B.y0) ∧ w'.cell? ⟨kf, 2, none⟩ = some (.int .i64 B.x1) ∧ w'.cell? ⟨kf, 3, none⟩ = some (.int .i64 B.y1) ∧ w'.cell? ⟨kf, 4, none⟩ = some (.slice fo1 n fk) ∧ w'.cell? ⟨kc, 0, none⟩ = some (.int .i64 B.x0) ∧ w'.cell? ⟨kc, 1, none⟩ = some (.int .i64 B.y0) ∧ w'.cell? ⟨kc, 2, none⟩ = some (.int .i64 B.x1) ∧ w'.cell? ⟨kc, 3, none⟩ = some (.int .i64 B.y1) ∧ w'.cell? ⟨kc, 4, none⟩ = some (.slice co n ck)
theorem sw_below {s kf kc : Nat} {B F A : R} {p : X} {ao : Option Addr} {n m : Nat} {fo : Option Addr} {fn fm : Nat} {fo1 : Option Addr} {fk : Nat} {co : Option Addr} {ck : Nat} {w1 w2 : World} (h : Sw s kf kc B F A p ao n m fo fn fm fo1 fk co ck w1) (hb : Below w1.heap.size w1 w2) : Sw s kf kc B F A p ao n m fo fn fm fo1 fk co ck w2 := by
  obtain ⟨c0, c1, c2, c3, c4, c5, c6, c7, c8, c9, c10, c11, c12, c13, c14, c15, c16, c17, c18, c19, c20, c21, c22, c23, c24, c25, c26, c27⟩ := h
  have e1 := fun o => World.cell?_of_block (a := ⟨s, o, none⟩) (hb.block s (World.block_lt_of_cell? w1 ⟨s, 0, none⟩ c0))
  have e2 := fun o => World.cell?_of_block (a := ⟨s + 1, o, none⟩) (hb.block (s + 1) (World.block_lt_of_cell? w1 ⟨s + 1, 0, none⟩ c5))
  have e3 := fun o => World.cell?_of_block (a := ⟨s + 1 + 1, o, none⟩) (hb.block (s + 1 + 1) (World.block_lt_of_cell? w1 ⟨s + 1 + 1, 0, none⟩ c10))
  have e4 := fun o => World.cell?_of_block (a := ⟨s + 1 + 1 + 1, o, none⟩) (hb.block (s + 1 + 1 + 1) (World.block_lt_of_cell? w1 ⟨s + 1 + 1 + 1, 0, none⟩ c14))
  have e5 := fun o => World.cell?_of_block (a := ⟨kf, o, none⟩) (hb.block kf (World.block_lt_of_cell? w1 ⟨kf, 0, none⟩ c18))
  have e6 := fun o => World.cell?_of_block (a := ⟨kc, o, none⟩) (hb.block kc (World.block_lt_of_cell? w1 ⟨kc, 0, none⟩ c23))
  exact ⟨by rw [e1]; exact c0, by rw [e1]; exact c1, by rw [e1]; exact c2, by rw [e1]; exact c3, by rw [e1]; exact c4, by rw [e2]; exact c5, by rw [e2]; exact c6, by rw [e2]; exact c7, by rw [e2]; exact c8, by rw [e2]; exact c9, by rw [e3]; exact c10, by rw [e3]; exact c11, by rw [e3]; exact c12, by rw [e3]; exact c13, by rw [e4]; exact c14, by rw [e4]; exact c15, by rw [e4]; exact c16, by rw [e4]; exact c17, by rw [e5]; exact c18, by rw [e5]; exact c19, by rw [e5]; exact c20, by rw [e5]; exact c21, by rw [e5]; exact c22, by rw [e6]; exact c23, by rw [e6]; exact c24, by rw [e6]; exact c25, by rw [e6]; exact c26, by rw [e6]; exact c27⟩
theorem sw_drew {s kf kc : Nat} {B F A : R} {p : X} {ao : Option Addr} {n m : Nat} {fo : Option Addr} {fn fm : Nat} {fo1 : Option Addr} {fk : Nat} {co : Option Addr} {ck : Nat} {w1 : World} (h : Sw s kf kc B F A p ao n m fo fn fm fo1 fk co ck w1) : Sw s kf kc B F A p ao n m fo fn fm fo1 fk co ck w1.drew := sw_below h (Below.refl _ _).drew
end Go.Proofs.Ytkgacjbnblfhoaa
