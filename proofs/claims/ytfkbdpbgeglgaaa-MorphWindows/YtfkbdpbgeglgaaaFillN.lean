/- No area, nothing to fill: the contract; and both together. -/
import Derived.Test.YtfkbdpbgeglgaaaMBoxH
namespace Go.Proofs.Ytfkbdpbgeglgaaa
open Num Go.RowKit
set_option linter.unusedVariables false
set_option linter.unusedSimpArgs false
attribute [local go_sem ↓] Rc.run_min_i64 Rc.run_max_i64

set_option maxRecDepth 100000 in
set_option maxHeartbeats 4000000 in
theorem fill_none (Z : R) (no : Option Addr) (nn nm : Nat) (B : R) (ao : Option Addr) (n m : Nat) (rx ry : Nat) (tv : Int) (w : World) (hB : Ok B) (hy : ry ≤ 255) :
    Calls Try.prog 23 #[.agg #[.int .i64 Z.x0, .int .i64 Z.y0, .int .i64 Z.x1, .int .i64 Z.y1, .slice no nn nm], .agg #[.int .i64 0, .int .i64 0, .int .i64 0, .int .i64 0], .agg #[.int .i64 B.x0, .int .i64 B.y0, .int .i64 B.x1, .int .i64 B.y1, .slice ao n m], .int .i64 (rx : Int), .int .i64 (ry : Int), .int .u8 tv] w fun e w' => e = .returned (.tuple #[]) ∧ Below w.heap.size w w' := by
  have hOB := hid hB
  obtain ⟨⟨i0, i1⟩, ⟨i2, i3⟩, ⟨i4, i5⟩, i6, i7⟩ := hB
  have HNEW : Hid (∀ a b : Int, -4398046511104 ≤ a ∧ a ≤ 4398046511104 → -4398046511104 ≤ b ∧ b ≤ 4398046511104 → Ok ⟨0, a, 0, b⟩ ∧ area ⟨0, a, 0, b⟩ ≤ 5000 ∧ orN ⟨0, a, 0, b⟩ = nil) := by
    intro a b ha hb
    have he : empB (⟨0, a, 0, b⟩ : R) = true := emp_yes (by dsimp only; omega)
    refine ⟨by unfold Ok; dsimp only; omega, by rw [area_no he]; decide, orN_yes he⟩
  have HAB : Hid ((-4398046511104 ≤ mx B.y0 (-(ry : Int)) ∧ mx B.y0 (-(ry : Int)) ≤ 4398046511104) ∧ (-4398046511104 ≤ mn B.y1 (ry : Int) ∧ mn B.y1 (ry : Int) ≤ 4398046511104)) := by
    show (_ ∧ _) ∧ (_ ∧ _)
    unfold mx mn
    omega
  have HN := hid (HNEW.out _ _ HAB.out.1 HAB.out.2)
  have HA : Hid (Rc.Has4 (((w.alloc (.cells #[.int .i64 Z.x0, .int .i64 Z.y0, .int .i64 Z.x1, .int .i64 Z.y1, .slice no nn nm] 26)).alloc (.cells #[.int .i64 0, .int .i64 0, .int .i64 0, .int .i64 0] 23)).alloc (.cells #[.int .i64 B.x0, .int .i64 B.y0, .int .i64 B.x1, .int .i64 B.y1, .slice ao n m] 26)) (w.heap.size + 1) (.int .i64 0) (.int .i64 0) (.int .i64 0) (.int .i64 0) ∧ Below w.heap.size w (((w.alloc (.cells #[.int .i64 Z.x0, .int .i64 Z.y0, .int .i64 Z.x1, .int .i64 Z.y1, .slice no nn nm] 26)).alloc (.cells #[.int .i64 0, .int .i64 0, .int .i64 0, .int .i64 0] 23)).alloc (.cells #[.int .i64 B.x0, .int .i64 B.y0, .int .i64 B.x1, .int .i64 B.y1, .slice ao n m] 26))) :=
    ⟨(Rc.Has4.new (by simp) _ _ _ _ _).alloc _, (((Below.refl _ _).alloc (Nat.le_refl _) _).alloc (by simp) _).alloc (by simp; omega) _⟩
  have hmE : empB (⟨0, 0, 0, 0⟩ : R) = true := by decide
  have HME := hid hmE
  have hw1 : IntKind.i64.wrap (0 - (ry : Int)) = 0 - (ry : Int) := by rw [IntKind.wrap_i64]; omega
  have hw2 : IntKind.i64.wrap (0 + (ry : Int)) = 0 + (ry : Int) := by rw [IntKind.wrap_i64]; omega
  clear hmE
  go_enter Try.func23, Try.ntmps23
  go_wp2_with (first
    | (go_at_call 21; with_reducible refine Calls.mono (new_any 0 (mx B.y0 (-(ry : Int))) 0 (mn B.y1 (ry : Int)) _ HN.out.1 HN.out.2.1) ?_; rintro e w2 ⟨hr2, hb2⟩; rw [HN.out.2.2] at hr2; obtain ⟨ro, rn, rm, rg, roff, rfl, -⟩ := retG hr2; have HB2 := hid hb2; clear hr2 hb2; obtain ⟨p0, p1, p2, p3, pf⟩ := (HA.out.1.below HB2.out).alloc (.cells #[.int .i64 nil.x0, .int .i64 nil.y0, .int .i64 nil.x1, .int .i64 nil.y1, .slice ro rn rm] 26))
    | (go_at_call 40; with_reducible refine Calls.mono (Rc.empty_any 0 0 0 0 _) ?_; rintro e w3 ⟨rfl, hb3⟩; rw [HME.out]; have HB3 := hid (Rc.via ((Below.refl w2.heap.size w2).alloc (Nat.le_refl _) _) hb3); clear hb3))
  refine bodyPost_ret (v := .tuple #[]) (by simp [results, Try.results23, go_sem]) rfl ⟨rfl, ?_⟩
  exact Rc.via (Rc.via HA.out.2 HB2.out) HB3.out
/-- an area is filled, or there is none -/
theorem fill_or (lo ng noff nn nm : Nat) (no : Option Addr) (Z : R) (F G : Int → Int → X) (ao : Option Addr) (n m g off : Nat) (B : R) (f : Int → Int → X) (M : R) (rx ry : Nat) (t : Bool) (w : World) (hOB : Ok B) (hy : ry ≤ 255) (hnn : nn ≤ 5000) (hn : n ≤ 5000)
    (hP : (M = nil ∧ img Z F = img Z G) ∨ (Fit Z B M rx ry ∧ area (rowsQ B M ry) ≤ 5000 ∧ img Z (colsG M (colE t (rowsQ B M ry) (rowE t B f rx) ry) F M.x1) = img Z G))
    (hO : Ox lo w no nn nm ng noff (img Z F)) (hV : Vx w ao n m g off (img B f)) (hne : 0 < n → 0 < nm → g ≠ ng) (hb : ∀ x y, byteX (f x y)) :
    Calls Try.prog 23 #[.agg #[.int .i64 Z.x0, .int .i64 Z.y0, .int .i64 Z.x1, .int .i64 Z.y1, .slice no nn nm], .agg #[.int .i64 M.x0, .int .i64 M.y0, .int .i64 M.x1, .int .i64 M.y1], .agg #[.int .i64 B.x0, .int .i64 B.y0, .int .i64 B.x1, .int .i64 B.y1, .slice ao n m], .int .i64 (rx : Int), .int .i64 (ry : Int), .int .u8 (tv t)] w fun e w' => e = .returned (.tuple #[]) ∧ Ox lo w' no nn nm ng noff (img Z G) ∧ (Below w.heap.size w w' ∨ (0 < nm ∧ But ng w w')) := by
  rcases hP with ⟨h1, h2⟩ | ⟨h1, h2, h3⟩
  · subst h1
    refine Calls.mono (fill_none Z no nn nm B ao n m rx ry (tv t) w hOB hy) ?_
    rintro e w' ⟨rfl, hb1⟩
    exact ⟨rfl, by rw [← h2]; exact hO.below hb1, .inl hb1⟩
  · have k1 := h1.mx
    have k2 := h1.my
    have k3 := h1.bx
    have k4 := h1.by_
    have e1 := vx_len hO.v
    have e2 := vx_len hV
    rw [img_len] at e1 e2
    have p1 : 0 < wid Z * hei Z := Nat.mul_pos (by unfold wid; omega) (by unfold hei; omega)
    have p2 : 0 < wid B * hei B := Nat.mul_pos (by unfold wid; omega) (by unfold hei; omega)
    have q1 := hO.v.le
    have q2 := hV.le
    obtain rfl := hO.v.addr (by omega)
    obtain rfl := hV.addr (by omega)
    refine Calls.mono (fill_some lo ng noff nn nm Z F g off n m B f M rx ry t w h1 h2 hnn hn hO hV (hne (by omega) (by omega)) hb) ?_
    rintro e w' ⟨rfl, ho, hb1⟩
    exact ⟨rfl, by rw [← h3]; exact ho, .inr ⟨by omega, hb1⟩⟩
end Go.Proofs.Ytfkbdpbgeglgaaa
