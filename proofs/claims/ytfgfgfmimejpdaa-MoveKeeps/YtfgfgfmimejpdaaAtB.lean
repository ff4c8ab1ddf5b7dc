/- The pixel at a point, as the document has it: the contract. -/
import Derived.Test.YtfgfgfmimejpdaaSmall
namespace Go.Proofs.Ytfgfgfmimejpdaa
open Num Go.RowKit
set_option linter.unusedVariables false
set_option linter.unusedSimpArgs false
attribute [local go_sem ↓] eqR

theorem refHas_any (a b c d x y : Int) (w : World) :
    Calls Try.prog 31 #[.agg #[.int .i64 a, .int .i64 b, .int .i64 c, .int .i64 d], .int .i64 x, .int .i64 y] w fun e w' => e = .returned (.bool (hasB ⟨a, b, c, d⟩ x y)) ∧ Below w.heap.size w w' := by
  go_enter Try.func31, Try.ntmps31
  go_wp2
  all_goals
    go_ret
    refine ⟨ret_bool ?_, (Below.refl _ _).alloc (Nat.le_refl _) _⟩
    unfold hasB
    rw [Bool.eq_iff_iff]
    simp
    omega

/-- a pixel's value -/
abbrev pxV (p : X) : Value := .agg #[.int .u8 p.c0, .int .u8 p.c1, .int .u8 p.c2, .int .u8 p.c3]

set_option maxHeartbeats 1000000 in
theorem refAt_any (B : R) (ao : Option Addr) (n m g off : Nat) (f : Int → Int → X) (x y : Int) (w : World) (ho : Ok B) (hn : n ≤ 1000000) (hx : -9000000000000 ≤ x ∧ x ≤ 9000000000000) (hy : -9000000000000 ≤ y ∧ y ≤ 9000000000000) (h : Vx w ao n m g off (img B f)) :
    Calls Try.prog 32 #[.agg #[.int .i64 B.x0, .int .i64 B.y0, .int .i64 B.x1, .int .i64 B.y1, .slice ao n m], .int .i64 x, .int .i64 y] w fun e w' => e = .returned (pxV (atX B f x y)) ∧ Below w.heap.size w w' := by
  obtain ⟨⟨a0, a1⟩, ⟨b0, b1⟩, ⟨c0, c1⟩, d0, d1⟩ := ho
  have hA : Has5 ((w.alloc (.cells #[.int .i64 B.x0, .int .i64 B.y0, .int .i64 B.x1, .int .i64 B.y1, .slice ao n m] 26)).alloc (.cells #[.int .u8 0, .int .u8 0, .int .u8 0, .int .u8 0] 28)) w.heap.size B ao n m := (Has5.new rfl _ _ _ _ _ _ _ _).alloc _
  have hC : Rc.Has4 ((w.alloc (.cells #[.int .i64 B.x0, .int .i64 B.y0, .int .i64 B.x1, .int .i64 B.y1, .slice ao n m] 26)).alloc (.cells #[.int .u8 0, .int .u8 0, .int .u8 0, .int .u8 0] 28)) (w.heap.size + 1) (.int .u8 0) (.int .u8 0) (.int .u8 0) (.int .u8 0) := Rc.Has4.new (by simp) _ _ _ _ _
  have hB : Below w.heap.size w ((w.alloc (.cells #[.int .i64 B.x0, .int .i64 B.y0, .int .i64 B.x1, .int .i64 B.y1, .slice ao n m] 26)).alloc (.cells #[.int .u8 0, .int .u8 0, .int .u8 0, .int .u8 0] 28)) := ((Below.refl _ _).alloc (Nat.le_refl _) _).alloc (by simp) _
  rcases hh : hasB B x y with _ | _
  · have E : atX B f x y = noX := by unfold atX; rw [hh]; rfl
    rw [E]
    have HH := hid hh
    clear E hh h
    go_enter Try.func32, Try.ntmps32
    go_wp2_with (go_at_call 31; with_reducible refine Calls.mono (refHas_any B.x0 B.y0 B.x1 B.y1 x y _) ?_; rintro e w1 ⟨rfl, hb1⟩; rw [show hasB ⟨B.x0, B.y0, B.x1, B.y1⟩ x y = false from HH.out]; replace hB := Rc.via hB hb1; replace hA := hA.below hb1; replace hC := hC.below hb1; obtain ⟨q0, q1, q2, q3, qf⟩ := id hC; have hz := hB.size; clear hb1)
    obtain ⟨s0, s1, s2, s3⟩ := Rc.set4 q0 q1 q2 q3 (.int .u8 0) (.int .u8 0) (.int .u8 0) (.int .u8 0)
    refine bodyPost_ret (v := .agg #[.int .u8 0, .int .u8 0, .int .u8 0, .int .u8 0]) (by simp [results, Try.results32, go_sem, s0, s1, s2, s3]) rfl ⟨rfl, ?_⟩
    go_grown
  · have E : atX B f x y = f x y := by unfold atX; rw [hh]; rfl
    rw [E]
    have hp := pos_of hh
    have hl := vx_len h
    rw [img_len] at hl
    have hbb := of_decide_eq_true hh
    obtain ⟨x1, x2, x3, x4⟩ := hbb
    have hpi := pos_int (B := B) (x := x) (y := y) (by omega) (by omega) (by omega)
    have hat := at_img f hh
    have hs : ∃ s : Nat, (y - B.y0) * (B.x1 - B.x0) = (s : Int) := ⟨((y - B.y0) * (B.x1 - B.x0)).toNat, by have := Int.mul_nonneg (a := y - B.y0) (b := B.x1 - B.x0) (by omega) (by omega); omega⟩
    obtain ⟨s, hs⟩ := hs
    rw [hs] at hpi
    have hq : (s : Int) + (x - B.x0) = ((posN B x y : Nat) : Int) := hpi.symm
    have hqn : posN B x y < n := by omega
    have hsn : s ≤ 1000000 := by omega
    obtain ⟨rfl, r0, r1, r2, r3⟩ := vx_at h hat
    have hgl : g < w.heap.size := World.block_lt_of_cell? _ _ r0
    have H := hid (And.intro h hat)
    have HH := hid hh
    generalize posN B x y = q at *
    have z1 : (q : Int) < (n : Int) := by omega
    clear E hh h hat hp hpi hl
    go_enter Try.func32, Try.ntmps32
    go_wp2_with (go_at_call 31; with_reducible refine Calls.mono (refHas_any B.x0 B.y0 B.x1 B.y1 x y _) ?_; rintro e w1 ⟨rfl, hb1⟩; rw [show hasB ⟨B.x0, B.y0, B.x1, B.y1⟩ x y = true from HH.out]; replace hB := Rc.via hB hb1; replace hA := hA.below hb1; replace hC := hC.below hb1; obtain ⟨p0, p1, p2, p3, p4, pf⟩ := id hA; obtain ⟨q0, q1, q2, q3, qf⟩ := id hC; have hz := hB.size; obtain ⟨-, t0, t1, t2, t3⟩ := vx_at (H.out.1.below hB) H.out.2; clear hb1)
    obtain ⟨s0, s1, s2, s3⟩ := Rc.set4 q0 q1 q2 q3 (.int .u8 (f x y).c0) (.int .u8 (f x y).c1) (.int .u8 (f x y).c2) (.int .u8 (f x y).c3)
    refine bodyPost_ret (v := pxV (f x y)) (by simp [results, Try.results32, go_sem, s0, s1, s2, s3]) rfl ⟨rfl, ?_⟩
    go_grown
end Go.Proofs.Ytfgfgfmimejpdaa
