/- What the product of two numbers and the areas are, as contracts. -/
import Derived.Test.YtfgfgfmimejpdaaRMoves
import Derived.Laws.Bits64b
import Derived.Deep.QuietTactic
import Derived.BigQuiet
namespace Go.Proofs.Ytfgfgfmimejpdaa.Rc
open Num Go.RowKit
set_option linter.unusedVariables false
set_option linter.unusedSimpArgs false

/-- the halves of a product -/
def hiP (p : Int) : Int := p / 18446744073709551616
def loP (p : Int) : Int := p % 18446744073709551616
theorem wrap_lo (n : Int) : 0 ≤ IntKind.u64.wrap n ∧ IntKind.u64.wrap n < 18446744073709551616 := by rw [IntKind.wrap_u64]; omega
theorem wrap_lo' (n : Int) : IntKind.u64.wrap n = loP n := IntKind.wrap_u64 n
theorem mask_wrap (n : Int) : bits .and .u64 (IntKind.u64.wrap n) 4294967295 = IntKind.u64.wrap n % 4294967296 := and_low32 _ (wrap_lo n).1 (wrap_lo n).2
theorem ret_two {a b c d : Int} (h1 : a = c) (h2 : b = d) : Ending.returned (.tuple #[.int .u64 a, .int .u64 b]) = .returned (.tuple #[.int .u64 c, .int .u64 d]) := by rw [h1, h2]
theorem mul64_any (x y : Int) (w : World) (hx : 0 ≤ x ∧ x ≤ 8796093022208) (hy : 0 ≤ y ∧ y ≤ 8796093022208) :
    Calls Try.prog 81 #[.int .u64 x, .int .u64 y] w fun e w' => e = .returned (.tuple #[.int .u64 (hiP (x * y)), .int .u64 (loP (x * y))]) ∧ w' = w := by
  obtain ⟨x0, x1⟩ := hx
  obtain ⟨y0, y1⟩ := hy
  have H := mul64_arith x y x0 (by omega) y0 (by omega)
  have HH : Hid (IntKind.u64.wrap (IntKind.u64.wrap (IntKind.u64.wrap (x / 4294967296 * (y / 4294967296)) + IntKind.u64.wrap (IntKind.u64.wrap (x / 4294967296 * (y % 4294967296)) + IntKind.u64.wrap (x % 4294967296 * (y % 4294967296)) / 4294967296) / 4294967296) + IntKind.u64.wrap (bits BinOp.and IntKind.u64 (IntKind.u64.wrap (IntKind.u64.wrap (x / 4294967296 * (y % 4294967296)) + IntKind.u64.wrap (x % 4294967296 * (y % 4294967296)) / 4294967296)) 4294967295 + IntKind.u64.wrap (x % 4294967296 * (y / 4294967296))) / 4294967296) = hiP (x * y)) := by
    rw [mask_wrap]
    simp only [IntKind.wrap_u64]
    exact H
  clear H
  have mx := and_low32 x x0 (by omega)
  have my := and_low32 y y0 (by omega)
  go_enter Try.func81, Try.ntmps81
  go_wp2
  go_ret2
  exact ⟨ret_two HH.out (wrap_lo' _), rfl⟩

theorem area_any (a b c d : Int) (w : World) (ho : Ok ⟨a, b, c, d⟩) :
    Calls Try.prog 62 #[.agg #[.int .i64 a, .int .i64 b, .int .i64 c, .int .i64 d]] w fun e w' => e = .returned (.int .i64 (area ⟨a, b, c, d⟩)) ∧ Below w.heap.size w w' := by
  obtain ⟨⟨a0, a1⟩, ⟨b0, b1⟩, ⟨c0, c1⟩, d0, d1⟩ := ho
  dsimp only at a0 a1 b0 b1 c0 c1 d0 d1

  rcases h : empB ⟨a, b, c, d⟩ with _ | _
  · obtain ⟨h1, h2⟩ := of_some h
    dsimp only at h1 h2
    have u1 : IntKind.u64.wrap (IntKind.u64.wrap c - IntKind.u64.wrap a) = c - a := by simp only [IntKind.wrap_u64]; omega
    have u2 : IntKind.u64.wrap (IntKind.u64.wrap d - IntKind.u64.wrap b) = d - b := by simp only [IntKind.wrap_u64]; omega
    have E : Hid (area ⟨a, b, c, d⟩ = mn ((c - a) * (d - b)) 2305843009213693952) := area_of h
    have M : ∀ w, Calls Try.prog 81 #[.int .u64 (c - a), .int .u64 (d - b)] w fun e w' => e = .returned (.tuple #[.int .u64 (hiP ((c - a) * (d - b))), .int .u64 (loP ((c - a) * (d - b)))]) ∧ w' = w := fun w => mul64_any _ _ w (by omega) (by omega)
    have PP : 0 < (c - a) * (d - b) := prod_pos (by omega) (by omega)
    generalize (c - a) * (d - b) = t at E M PP
    have M' := M
    clear M
    by_cases t1 : hiP t = 0
    · have t2 : loP t = t := by unfold hiP at t1; unfold loP; omega
      have t3 : Hid (t < 18446744073709551616) := by unfold Hid hiP at *; omega
      rw [t1, t2] at M'
      have M : Hid (∀ w, Calls Try.prog 81 #[.int .u64 (c - a), .int .u64 (d - b)] w fun e w' => e = .returned (.tuple #[.int .u64 0, .int .u64 t]) ∧ w' = w) := M'
      clear M' t1 t2
      by_cases t4 : 2305843009213693952 < t
      · go_enter Try.func62, Try.ntmps62
        go_wp2_with (first | (go_at_call 81; refine (M.out _).mono ?_; rintro e w1 ⟨rfl, rfl⟩) | (go_at_call 37; refine (empty_any _ _ _ _ _).mono ?_; rintro e w' ⟨rfl, hb⟩; have hB := via (w := w) (by go_grown) hb; have hP : Has4 w' w.heap.size (.int .i64 a) (.int .i64 b) (.int .i64 c) (.int .i64 d) := (Has4.new rfl _ _ _ _ _).below hb; clear hb; obtain ⟨p0, p1, p2, p3, pf⟩ := id hP))
        go_ret
        exact ⟨ret_int (by rw [E.out]; unfold mn; omega), hB⟩
      · go_enter Try.func62, Try.ntmps62
        go_wp2_with (first | (go_at_call 81; refine (M.out _).mono ?_; rintro e w1 ⟨rfl, rfl⟩) | (go_at_call 37; refine (empty_any _ _ _ _ _).mono ?_; rintro e w' ⟨rfl, hb⟩; have hB := via (w := w) (by go_grown) hb; have hP : Has4 w' w.heap.size (.int .i64 a) (.int .i64 b) (.int .i64 c) (.int .i64 d) := (Has4.new rfl _ _ _ _ _).below hb; clear hb; obtain ⟨p0, p1, p2, p3, pf⟩ := id hP))
        go_ret
        exact ⟨ret_int (by rw [E.out]; unfold mn; omega), hB⟩
    · have t2 : (hiP t == 0) = false := by simpa using t1
      have M : Hid (∀ w, Calls Try.prog 81 #[.int .u64 (c - a), .int .u64 (d - b)] w fun e w' => e = .returned (.tuple #[.int .u64 (hiP t), .int .u64 (loP t)]) ∧ w' = w) := M'
      have t3 : Hid (18446744073709551616 ≤ t) := by unfold Hid hiP at *; omega
      clear M'
      go_enter Try.func62, Try.ntmps62
      go_wp2_with (first | (go_at_call 81; refine (M.out _).mono ?_; rintro e w1 ⟨rfl, rfl⟩) | (go_at_call 37; refine (empty_any _ _ _ _ _).mono ?_; rintro e w' ⟨rfl, hb⟩; have hB := via (w := w) (by go_grown) hb; have hP : Has4 w' w.heap.size (.int .i64 a) (.int .i64 b) (.int .i64 c) (.int .i64 d) := (Has4.new rfl _ _ _ _ _).below hb; clear hb; obtain ⟨p0, p1, p2, p3, pf⟩ := id hP))
      go_ret
      have t4 := t3.out
      exact ⟨ret_int (by rw [E.out]; unfold mn; omega), hB⟩
  · have E : area ⟨a, b, c, d⟩ = 0 := area_no h
    rw [E]
    clear E
    go_enter Try.func62, Try.ntmps62
    go_wp2_with (go_at_call 37; refine (empty_any _ _ _ _ _).mono ?_; rintro e w' ⟨rfl, hb⟩; have hB := via (w := w) (by go_grown) hb; clear hb)
    go_ret
    exact ⟨rfl, hB⟩
theorem below_drewN {B : Nat} {a w : World} (h : Below B a w) (n : Nat) : Below B a (w.drewN n) := ⟨h.os, h.tape, h.output, h.size, h.block⟩
theorem refArea_any (a b c d : Int) (w : World) (ho : Ok ⟨a, b, c, d⟩) :
    Calls Try.prog 52 #[.agg #[.int .i64 a, .int .i64 b, .int .i64 c, .int .i64 d]] w fun e w' => e = .returned (.int .i64 (area ⟨a, b, c, d⟩)) ∧ Below w.heap.size w w' := by
  obtain ⟨⟨a0, a1⟩, ⟨b0, b1⟩, ⟨c0, c1⟩, d0, d1⟩ := ho
  dsimp only at a0 a1 b0 b1 c0 c1 d0 d1

  rcases h : empB ⟨a, b, c, d⟩ with _ | _
  · obtain ⟨h1, h2⟩ := of_some h
    dsimp only at h1 h2
    have E : Hid (area ⟨a, b, c, d⟩ = mn ((c - a) * (d - b)) 2305843009213693952) := area_of h
    have CP : Hid (2305843009213693952 / (d - b) < c - a ↔ 2305843009213693952 < (c - a) * (d - b)) := mul_cap (by omega) (by omega)
    have PP : 0 < (c - a) * (d - b) := prod_pos (by omega) (by omega)
    by_cases cap : 2305843009213693952 / (d - b) < c - a
    · have C2 : Hid (2305843009213693952 < (c - a) * (d - b)) := CP.out.1 cap
      clear CP
      go_enter Try.func52, Try.ntmps52
      go_wp2_with (go_at_call 15; refine (refEmpty_any _ _ _ _ _).mono ?_; rintro e w' ⟨rfl, hb⟩; have hB := via (w := w) (by go_grown) hb; have hP : Has4 w' w.heap.size (.int .i64 a) (.int .i64 b) (.int .i64 c) (.int .i64 d) := (Has4.new rfl _ _ _ _ _).below hb; clear hb; obtain ⟨p0, p1, p2, p3, pf⟩ := id hP)
      go_quiet (fail)
      go_wp2
      go_ret
      have C3 := C2.out
      exact ⟨ret_int (by rw [E.out]; unfold mn; omega), below_drewN hB _⟩
    · have P1 : (c - a) * (d - b) ≤ 2305843009213693952 := by have := CP.out; omega
      clear CP
      go_enter Try.func52, Try.ntmps52
      go_wp2_with (go_at_call 15; refine (refEmpty_any _ _ _ _ _).mono ?_; rintro e w' ⟨rfl, hb⟩; have hB := via (w := w) (by go_grown) hb; have hP : Has4 w' w.heap.size (.int .i64 a) (.int .i64 b) (.int .i64 c) (.int .i64 d) := (Has4.new rfl _ _ _ _ _).below hb; clear hb; obtain ⟨p0, p1, p2, p3, pf⟩ := id hP)
      go_quiet (fail)
      go_wp2
      go_ret
      exact ⟨ret_int (by rw [E.out]; unfold mn; omega), below_drewN hB _⟩
  · have E : area ⟨a, b, c, d⟩ = 0 := area_no h
    rw [E]
    clear E
    go_enter Try.func52, Try.ntmps52
    go_wp2_with (go_at_call 15; refine (refEmpty_any _ _ _ _ _).mono ?_; rintro e w' ⟨rfl, hb⟩; have hB := via (w := w) (by go_grown) hb; clear hb)
    go_ret
    exact ⟨rfl, hB⟩
end Go.Proofs.Ytfgfgfmimejpdaa.Rc
