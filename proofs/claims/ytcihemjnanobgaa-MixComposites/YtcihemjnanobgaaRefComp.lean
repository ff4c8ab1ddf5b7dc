/- What Composite does, as a contract, of the document: the same. -/
import Derived.Handy
import Derived.Test.YtcihemjnanobgaaComp
namespace Go.Proofs.Ytcihemjnanobgaa
open Num Go.RowKit
set_option linter.unusedVariables false
set_option linter.unusedSimpArgs false
attribute [local go_sem ↓] Go.wp_at_zero Go.wp_at_succ

theorem below_drewN {B : Nat} {a w : World} (h : Below B a w) (n : Nat) : Below B a (w.drewN n) := ⟨h.os, h.tape, h.output, h.size, h.block⟩
/-- a callee that draws nothing, met where draws were made ahead -/
theorem quiet_more {P : Program} {f : FuncId} {args : Array Value} {w : World} {k n : Nat} {v : Value}
    (h : Calls P f args (w.drewN (k + n)) fun e w' => e = .returned v ∧ w' = w.drewN (k + n)) : Calls P f args (w.drewN (k + n)) fun e w'' => e = .returned v ∧ ∃ m, w'' = w.drewN (k + m) :=
  h.mono fun _ _ ⟨he, hm⟩ => ⟨he, n, hm⟩

set_option maxHeartbeats 4000000 in
theorem refComp_any (op r g b a p q s c : Int) (w : World) (ho : 0 ≤ op ∧ op ≤ 5) (hr : 0 ≤ r ∧ r ≤ 255) (hg : 0 ≤ g ∧ g ≤ 255) (hb : 0 ≤ b ∧ b ≤ 255) (ha : 0 ≤ a ∧ a ≤ 255) (hp : 0 ≤ p ∧ p ≤ 255) (hq : 0 ≤ q ∧ q ≤ 255) (hs : 0 ≤ s ∧ s ≤ 255) (hc : 0 ≤ c ∧ c ≤ 255) :
    Calls Try.prog 12 #[.int .i64 op, .agg #[.int .u8 r, .int .u8 g, .int .u8 b, .int .u8 a], .agg #[.int .u8 p, .int .u8 q, .int .u8 s, .int .u8 c]] w fun e w' => e = .returned (.agg #[.int .u8 (cmp op r p a c), .int .u8 (cmp op g q a c), .int .u8 (cmp op b s a c), .int .u8 (cmp op a c a c)]) ∧ Below w.heap.size w w' := by
  have la := less_bd ha
  have lc := less_bd hc
  have wa : IntKind.u8.wrap (255 - a) = 255 - a := by rw [IntKind.wrap_u8]; omega
  have wc : IntKind.u8.wrap (255 - c) = 255 - c := by rw [IntKind.wrap_u8]; omega
  have x0 := mul_bd hr hc
  have y0 := mul_bd hr lc
  have z0 := mul_bd hp la
  have e0 := cmp_doc (op := op) (b := p) (A := a) (B := c) hr
  have x1 := mul_bd hg hc
  have y1 := mul_bd hg lc
  have z1 := mul_bd hq la
  have e1 := cmp_doc (op := op) (b := q) (A := a) (B := c) hg
  have x2 := mul_bd hb hc
  have y2 := mul_bd hb lc
  have z2 := mul_bd hs la
  have e2 := cmp_doc (op := op) (b := s) (A := a) (B := c) hb
  have x3 := mul_bd ha hc
  have y3 := mul_bd ha lc
  have z3 := mul_bd hc la
  have e3 := cmp_doc (op := op) (b := c) (A := a) (B := c) ha
  rw [← e0, ← e1, ← e2, ← e3]
  clear e0 e1 e2 e3
  obtain ⟨x00, x01⟩ := id x0
  obtain ⟨y00, y01⟩ := id y0
  obtain ⟨z00, z01⟩ := id z0
  obtain ⟨x10, x11⟩ := id x1
  obtain ⟨y10, y11⟩ := id y1
  obtain ⟨z10, z11⟩ := id z1
  obtain ⟨x20, x21⟩ := id x2
  obtain ⟨y20, y21⟩ := id y2
  obtain ⟨z20, z21⟩ := id z2
  obtain ⟨x30, x31⟩ := id x3
  obtain ⟨y30, y31⟩ := id y3
  obtain ⟨z30, z31⟩ := id z3
  obtain ⟨hr0, hr1⟩ := id hr
  obtain ⟨hg0, hg1⟩ := id hg
  obtain ⟨hb0, hb1⟩ := id hb
  obtain ⟨ha0, ha1⟩ := id ha
  rcases six ho with rfl | rfl | rfl | rfl | rfl | rfl
  all_goals
    clear ho
    go_enter Try.func12, Try.ntmps12
    go_wp2
    refine wp_loop_rounds 5 ?_
    rw [rounds_succ]
    go_wp2
    go_quiet (first | (go_at_call 22; refine Calls.quiet_of_same (by_any _ _ _ ‹_› ‹_›)) | (go_at_call 22; refine quiet_more (by_any _ _ _ ‹_› ‹_›)))
    go_wp2
    go_quiet (first | (go_at_call 22; refine Calls.quiet_of_same (by_any _ _ _ ‹_› ‹_›)) | (go_at_call 22; refine quiet_more (by_any _ _ _ ‹_› ‹_›)))
    go_wp2
    go_quiet (first | (go_at_call 22; refine Calls.quiet_of_same (by_any _ _ _ ‹_› ‹_›)) | (go_at_call 22; refine quiet_more (by_any _ _ _ ‹_› ‹_›)))
    go_wp2_with (go_at_call 23; refine (refCut_any _ _ ⟨by omega, by omega⟩).mono ?_; rintro e w' ⟨rfl, rfl⟩)
    rw [rounds_succ]
    go_wp2
    go_quiet (first | (go_at_call 22; refine Calls.quiet_of_same (by_any _ _ _ ‹_› ‹_›)) | (go_at_call 22; refine quiet_more (by_any _ _ _ ‹_› ‹_›)))
    go_wp2
    go_quiet (first | (go_at_call 22; refine Calls.quiet_of_same (by_any _ _ _ ‹_› ‹_›)) | (go_at_call 22; refine quiet_more (by_any _ _ _ ‹_› ‹_›)))
    go_wp2
    go_quiet (first | (go_at_call 22; refine Calls.quiet_of_same (by_any _ _ _ ‹_› ‹_›)) | (go_at_call 22; refine quiet_more (by_any _ _ _ ‹_› ‹_›)))
    go_wp2_with (go_at_call 23; refine (refCut_any _ _ ⟨by omega, by omega⟩).mono ?_; rintro e w' ⟨rfl, rfl⟩)
    rw [rounds_succ]
    go_wp2
    go_quiet (first | (go_at_call 22; refine Calls.quiet_of_same (by_any _ _ _ ‹_› ‹_›)) | (go_at_call 22; refine quiet_more (by_any _ _ _ ‹_› ‹_›)))
    go_wp2
    go_quiet (first | (go_at_call 22; refine Calls.quiet_of_same (by_any _ _ _ ‹_› ‹_›)) | (go_at_call 22; refine quiet_more (by_any _ _ _ ‹_› ‹_›)))
    go_wp2
    go_quiet (first | (go_at_call 22; refine Calls.quiet_of_same (by_any _ _ _ ‹_› ‹_›)) | (go_at_call 22; refine quiet_more (by_any _ _ _ ‹_› ‹_›)))
    go_wp2_with (go_at_call 23; refine (refCut_any _ _ ⟨by omega, by omega⟩).mono ?_; rintro e w' ⟨rfl, rfl⟩)
    rw [rounds_succ]
    go_wp2
    go_quiet (first | (go_at_call 22; refine Calls.quiet_of_same (by_any _ _ _ ‹_› ‹_›)) | (go_at_call 22; refine quiet_more (by_any _ _ _ ‹_› ‹_›)))
    go_wp2
    go_quiet (first | (go_at_call 22; refine Calls.quiet_of_same (by_any _ _ _ ‹_› ‹_›)) | (go_at_call 22; refine quiet_more (by_any _ _ _ ‹_› ‹_›)))
    go_wp2
    go_quiet (first | (go_at_call 22; refine Calls.quiet_of_same (by_any _ _ _ ‹_› ‹_›)) | (go_at_call 22; refine quiet_more (by_any _ _ _ ‹_› ‹_›)))
    go_wp2_with (go_at_call 23; refine (refCut_any _ _ ⟨by omega, by omega⟩).mono ?_; rintro e w' ⟨rfl, rfl⟩)
    rw [rounds_succ]
    go_wp2
    simp [bodyPost, results, Try.results12, go_sem, doc]
    repeat (go_grown; with_reducible refine below_drewN ?_ _)
    go_grown
end Go.Proofs.Ytcihemjnanobgaa
