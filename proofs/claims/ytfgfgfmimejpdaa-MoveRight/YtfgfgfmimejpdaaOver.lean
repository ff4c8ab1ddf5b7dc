/- What mixing a pixel on top of another and scaling one do: contracts. -/
import Derived.Test.YtfgfgfmimejpdaaTn
import Derived.Test.YtfgfgfmimejpdaaBlurNum
import Derived.Test.YtfgfgfmimejpdaaAtB
import Derived.Outline
import Derived.Handy
import Derived.WalkLawsBesides
import Derived.Deep.QuietTactic
import Derived.BigQuiet
import Derived.RegionTactic
import Derived.Deep.RegionHeld3
import Derived.Deep.DrawnRows
namespace Go.Proofs.Ytfgfgfmimejpdaa.Tn
open Go.RowKit
set_option linter.unusedVariables false
set_option linter.unusedSimpArgs false

theorem ret_int {k : IntKind} {a b : Int} (h : a = b) : Ending.returned (.int k a) = .returned (.int k b) := by rw [h]

theorem mul_any (a b : Int) (w : World) (ha : 0 ≤ a ∧ a ≤ 255) (hb : 0 ≤ b ∧ b ≤ 255) :
    Calls Try.prog 76 #[.int .u8 a, .int .u8 b] w fun e w' => e = .returned (.int .u8 (mulI a b)) ∧ w' = w := by
  have hp := prod_bd ha hb
  obtain ⟨a0, a1⟩ := ha
  obtain ⟨b0, b1⟩ := hb
  obtain ⟨p0, p1⟩ := hp
  go_enter Try.func76, Try.ntmps76
  go_wp2
  go_ret
  exact ⟨rfl, rfl⟩

theorem refMul_any (a b : Int) (w : World) (ha : 0 ≤ a ∧ a ≤ 255) (hb : 0 ≤ b ∧ b ≤ 255) :
    Calls Try.prog 79 #[.int .u8 a, .int .u8 b] w fun e w' => e = .returned (.int .u8 (mulI a b)) ∧ w' = w := by
  have hp := prod_bd ha hb
  have HR : Hid (rnd (a * b) = if 255 < 2 * (a * b - 255 * (a * b / 255)) then a * b / 255 + 1 else a * b / 255) := rnd_ref hp
  obtain ⟨a0, a1⟩ := ha
  obtain ⟨b0, b1⟩ := hb
  obtain ⟨p0, p1⟩ := hp
  go_enter Try.func79, Try.ntmps79
  go_wp2
  · go_ret
    exact ⟨ret_int (by unfold mulI; rw [HR.out, if_pos (by assumption)]), rfl⟩
  · go_ret
    exact ⟨ret_int (by unfold mulI; rw [HR.out, if_neg (by omega)]), rfl⟩

theorem cut_any (n : Int) (w : World) (h : -9223372036854775808 ≤ n ∧ n ≤ 9223372036854775807) :
    Calls Try.prog 89 #[.int .i64 n] w fun e w' => e = .returned (.int .u8 (cutI n)) ∧ w' = w := by
  obtain ⟨h0, h1⟩ := h
  by_cases c1 : n < 0
  · go_enter Try.func89, Try.ntmps89
    go_wp2
    go_ret
    exact ⟨ret_int (by unfold cutI; rw [if_pos c1]), rfl⟩
  · by_cases c2 : 255 < n
    · go_enter Try.func89, Try.ntmps89
      go_wp2
      go_ret
      exact ⟨ret_int (by unfold cutI; rw [if_neg (by omega), if_pos (by omega)]), rfl⟩
    · go_enter Try.func89, Try.ntmps89
      go_wp2
      go_ret
      exact ⟨ret_int (by unfold cutI; rw [if_neg (by omega), if_neg (by omega)]), rfl⟩

theorem refCut_any (n : Int) (w : World) (h : -9223372036854775808 ≤ n ∧ n ≤ 9223372036854775807) :
    Calls Try.prog 93 #[.int .i64 n] w fun e w' => e = .returned (.int .u8 (cutI n)) ∧ w' = w := by
  obtain ⟨h0, h1⟩ := h
  by_cases c1 : n < 0
  · go_enter Try.func93, Try.ntmps93
    go_wp2
    go_ret
    exact ⟨ret_int (by unfold cutI; rw [if_pos c1]), rfl⟩
  · by_cases c2 : 255 < n
    · go_enter Try.func93, Try.ntmps93
      go_wp2
      go_ret
      exact ⟨ret_int (by unfold cutI; rw [if_neg (by omega), if_pos (by omega)]), rfl⟩
    · go_enter Try.func93, Try.ntmps93
      go_wp2
      go_ret
      exact ⟨ret_int (by unfold cutI; rw [if_neg (by omega), if_neg (by omega)]), rfl⟩

theorem quo_hi {c a : Int} (hc : c ≤ 255) (ha : 0 < a) : (510 * c + a) / (2 * a) ≤ 65536 := by
  have := Int.ediv_lt_of_lt_mul (a := 510 * c + a) (b := 65537) (c := 2 * a) (by omega) (by omega); omega


theorem scale_any (r g b a : Int) (w : World) (hr : 0 ≤ r ∧ r ≤ 255) (hg : 0 ≤ g ∧ g ≤ 255) (hb : 0 ≤ b ∧ b ≤ 255) (ha : 0 ≤ a ∧ a ≤ 255) (k : Int) (hk : 0 ≤ k ∧ k ≤ 255) :
    Calls Try.prog 56 #[.agg #[.int .u8 r, .int .u8 g, .int .u8 b, .int .u8 a], .int .u8 k] w fun e w' => e = .returned (.agg #[.int .u8 (mulI r k), .int .u8 (mulI g k), .int .u8 (mulI b k), .int .u8 (mulI a k)]) ∧ ∃ (c1 c2 : Array Value) (n : Nat), w' = ((w.alloc (.cells c1 28)).alloc (.cells c2 28)).drewN n := by
  go_enter Try.func56, Try.ntmps56
  go_wp2
  refine wp_loop_rounds 5 ?_
  rw [rounds_succ]
  go_wp2_with (go_at_call 76; refine (mul_any _ _ _ ‹_› ‹_›).mono ?_; rintro e w' ⟨rfl, rfl⟩)
  rw [rounds_succ]
  go_wp2_with (go_at_call 76; refine (mul_any _ _ _ ‹_› ‹_›).mono ?_; rintro e w' ⟨rfl, rfl⟩)
  rw [rounds_succ]
  go_wp2_with (go_at_call 76; refine (mul_any _ _ _ ‹_› ‹_›).mono ?_; rintro e w' ⟨rfl, rfl⟩)
  rw [rounds_succ]
  go_wp2_with (go_at_call 76; refine (mul_any _ _ _ ‹_› ‹_›).mono ?_; rintro e w' ⟨rfl, rfl⟩)
  rw [rounds_succ]
  go_wp2
  simp [bodyPost, results, Try.results56, go_sem]
  exact ⟨_, _, 0, rfl⟩

theorem refScale_any (r g b a : Int) (w : World) (hr : 0 ≤ r ∧ r ≤ 255) (hg : 0 ≤ g ∧ g ≤ 255) (hb : 0 ≤ b ∧ b ≤ 255) (ha : 0 ≤ a ∧ a ≤ 255) (k : Int) (hk : 0 ≤ k ∧ k ≤ 255) :
    Calls Try.prog 59 #[.agg #[.int .u8 r, .int .u8 g, .int .u8 b, .int .u8 a], .int .u8 k] w fun e w' => e = .returned (.agg #[.int .u8 (mulI r k), .int .u8 (mulI g k), .int .u8 (mulI b k), .int .u8 (mulI a k)]) ∧ ∃ (c1 c2 : Array Value) (n : Nat), w' = ((w.alloc (.cells c1 28)).alloc (.cells c2 28)).drewN n := by
  go_enter Try.func59, Try.ntmps59
  go_wp2
  go_region_held3 (fun w' => w'.cell? ⟨w.heap.size, 0, none⟩ = some (.int .u8 r) ∧ w'.cell? ⟨w.heap.size, 1, none⟩ = some (.int .u8 g) ∧ w'.cell? ⟨w.heap.size, 2, none⟩ = some (.int .u8 b) ∧ w'.cell? ⟨w.heap.size, 3, none⟩ = some (.int .u8 a)) (simp [go_sem, World.cell?_alloc_past]) ((go_at_call 79; refine (refMul_any _ _ _ ‹_› ‹_›).mono ?_; rintro e w' ⟨rfl, rfl⟩))
  go_wp2
  simp [bodyPost, results, Try.results59, go_sem]
  exact ⟨_, _, 1, rfl⟩


theorem mulN_any (a b : Int) (w : World) (ha : 0 ≤ a ∧ a ≤ 255) (hb : 0 ≤ b ∧ b ≤ 255) :
    Calls Try.prog 90 #[.int .u8 a, .int .u8 b] w fun e w' => e = .returned (.int .i64 (mulI a b)) ∧ w' = w := by
  have hm := mul_bd ha hb
  go_enter Try.func90, Try.ntmps90
  go_wp2_with (go_at_call 76; refine (mul_any _ _ _ ‹_› ‹_›).mono ?_; rintro e w' ⟨rfl, rfl⟩)
  go_ret
  exact ⟨rfl, rfl⟩
theorem by_any (a b : Int) (w : World) (ha : 0 ≤ a ∧ a ≤ 255) (hb : 0 ≤ b ∧ b ≤ 255) :
    Calls Try.prog 92 #[.int .u8 a, .int .u8 b] w fun e w' => e = .returned (.int .i64 (mulI a b)) ∧ w' = w := by
  have hm := mul_bd ha hb
  go_enter Try.func92, Try.ntmps92
  go_wp2_with (go_at_call 79; refine (refMul_any _ _ _ ‹_› ‹_›).mono ?_; rintro e w' ⟨rfl, rfl⟩)
  go_ret
  exact ⟨rfl, rfl⟩
theorem six {op : Int} (h : 0 ≤ op ∧ op ≤ 5) : op = 0 ∨ op = 1 ∨ op = 2 ∨ op = 3 ∨ op = 4 ∨ op = 5 := by omega
theorem seven {m : Int} (h : 0 ≤ m ∧ m ≤ 6) : m = 0 ∨ m = 1 ∨ m = 2 ∨ m = 3 ∨ m = 4 ∨ m = 5 ∨ m = 6 := by omega
theorem six' {m : Int} (h : 1 ≤ m ∧ m ≤ 6) : m = 1 ∨ m = 2 ∨ m = 3 ∨ m = 4 ∨ m = 5 ∨ m = 6 := by omega

theorem shares_any (op A B : Int) (w : World) (ho : 0 ≤ op ∧ op ≤ 5) (hA : 0 ≤ A ∧ A ≤ 255) (hB : 0 ≤ B ∧ B ≤ 255) :
    Calls Try.prog 88 #[.int .i64 op, .int .u8 A, .int .u8 B] w fun e w' => e = .returned (.tuple #[.int .u8 (sA op A B), .int .u8 (sB op A B)]) ∧ w' = w := by
  obtain ⟨A0, A1⟩ := hA
  obtain ⟨B0, B1⟩ := hB
  rcases six ho with rfl | rfl | rfl | rfl | rfl | rfl
  all_goals
    clear ho
    go_enter Try.func88, Try.ntmps88
    go_wp2
    simp [bodyPost, results, Try.results88, go_sem, sA, sB]

attribute [local go_sem ↓] Go.wp_at_zero Go.wp_at_succ

set_option maxHeartbeats 2000000 in
theorem comp_any (op r g b a p q s c : Int) (w : World) (ho : 0 ≤ op ∧ op ≤ 5) (hr : 0 ≤ r ∧ r ≤ 255) (hg : 0 ≤ g ∧ g ≤ 255) (hb : 0 ≤ b ∧ b ≤ 255) (ha : 0 ≤ a ∧ a ≤ 255) (hp : 0 ≤ p ∧ p ≤ 255) (hq : 0 ≤ q ∧ q ≤ 255) (hs : 0 ≤ s ∧ s ≤ 255) (hc : 0 ≤ c ∧ c ≤ 255) :
    Calls Try.prog 77 #[.int .i64 op, .agg #[.int .u8 r, .int .u8 g, .int .u8 b, .int .u8 a], .agg #[.int .u8 p, .int .u8 q, .int .u8 s, .int .u8 c]] w fun e w' => e = .returned (.agg #[.int .u8 (cmp op r p a c), .int .u8 (cmp op g q a c), .int .u8 (cmp op b s a c), .int .u8 (cmp op a c a c)]) ∧ Below w.heap.size w w' := by
  have sa := sA_bd op ha hc
  have sb := sB_bd op ha hc
  have x0 := mul_bd hr sa
  have y0 := mul_bd hp sb
  have e0 : IntKind.i64.wrap (mulI r (sA op a c) + mulI p (sB op a c)) = mulI r (sA op a c) + mulI p (sB op a c) := by rw [IntKind.wrap_i64]; omega
  have x1 := mul_bd hg sa
  have y1 := mul_bd hq sb
  have e1 : IntKind.i64.wrap (mulI g (sA op a c) + mulI q (sB op a c)) = mulI g (sA op a c) + mulI q (sB op a c) := by rw [IntKind.wrap_i64]; omega
  have x2 := mul_bd hb sa
  have y2 := mul_bd hs sb
  have e2 : IntKind.i64.wrap (mulI b (sA op a c) + mulI s (sB op a c)) = mulI b (sA op a c) + mulI s (sB op a c) := by rw [IntKind.wrap_i64]; omega
  have x3 := mul_bd ha sa
  have y3 := mul_bd hc sb
  have e3 : IntKind.i64.wrap (mulI a (sA op a c) + mulI c (sB op a c)) = mulI a (sA op a c) + mulI c (sB op a c) := by rw [IntKind.wrap_i64]; omega
  go_enter Try.func77, Try.ntmps77
  go_wp2_with (go_at_call 88; refine (shares_any _ _ _ _ ‹_› ‹_› ‹_›).mono ?_; rintro e w' ⟨rfl, rfl⟩)
  refine wp_loop_rounds 5 ?_
  rw [rounds_succ]
  go_wp2
  go_region_held3 (fun w' => (w'.cell? ⟨w.heap.size, 0, none⟩ = some (.int .u8 r) ∧ w'.cell? ⟨w.heap.size, 1, none⟩ = some (.int .u8 g) ∧ w'.cell? ⟨w.heap.size, 2, none⟩ = some (.int .u8 b) ∧ w'.cell? ⟨w.heap.size, 3, none⟩ = some (.int .u8 a)) ∧ (w'.cell? ⟨w.heap.size + 1, 0, none⟩ = some (.int .u8 p) ∧ w'.cell? ⟨w.heap.size + 1, 1, none⟩ = some (.int .u8 q) ∧ w'.cell? ⟨w.heap.size + 1, 2, none⟩ = some (.int .u8 s) ∧ w'.cell? ⟨w.heap.size + 1, 3, none⟩ = some (.int .u8 c))) (simp [go_sem, World.cell?_alloc_past, World.cell?_setCell_far]) ((first | (go_at_call 90; refine (mulN_any _ _ _ ‹_› ‹_›).mono ?_; rintro e w' ⟨rfl, rfl⟩) | (go_at_call 89; refine (cut_any _ _ ⟨by omega, by omega⟩).mono ?_; rintro e w' ⟨rfl, rfl⟩)))
  go_wp2
  rw [rounds_succ]
  go_wp2
  go_region_held3 (fun w' => (w'.cell? ⟨w.heap.size, 0, none⟩ = some (.int .u8 r) ∧ w'.cell? ⟨w.heap.size, 1, none⟩ = some (.int .u8 g) ∧ w'.cell? ⟨w.heap.size, 2, none⟩ = some (.int .u8 b) ∧ w'.cell? ⟨w.heap.size, 3, none⟩ = some (.int .u8 a)) ∧ (w'.cell? ⟨w.heap.size + 1, 0, none⟩ = some (.int .u8 p) ∧ w'.cell? ⟨w.heap.size + 1, 1, none⟩ = some (.int .u8 q) ∧ w'.cell? ⟨w.heap.size + 1, 2, none⟩ = some (.int .u8 s) ∧ w'.cell? ⟨w.heap.size + 1, 3, none⟩ = some (.int .u8 c))) (simp [go_sem, World.cell?_alloc_past, World.cell?_setCell_far]) ((first | (go_at_call 90; refine (mulN_any _ _ _ ‹_› ‹_›).mono ?_; rintro e w' ⟨rfl, rfl⟩) | (go_at_call 89; refine (cut_any _ _ ⟨by omega, by omega⟩).mono ?_; rintro e w' ⟨rfl, rfl⟩)))
  go_wp2
  rw [rounds_succ]
  go_wp2
  go_region_held3 (fun w' => (w'.cell? ⟨w.heap.size, 0, none⟩ = some (.int .u8 r) ∧ w'.cell? ⟨w.heap.size, 1, none⟩ = some (.int .u8 g) ∧ w'.cell? ⟨w.heap.size, 2, none⟩ = some (.int .u8 b) ∧ w'.cell? ⟨w.heap.size, 3, none⟩ = some (.int .u8 a)) ∧ (w'.cell? ⟨w.heap.size + 1, 0, none⟩ = some (.int .u8 p) ∧ w'.cell? ⟨w.heap.size + 1, 1, none⟩ = some (.int .u8 q) ∧ w'.cell? ⟨w.heap.size + 1, 2, none⟩ = some (.int .u8 s) ∧ w'.cell? ⟨w.heap.size + 1, 3, none⟩ = some (.int .u8 c))) (simp [go_sem, World.cell?_alloc_past, World.cell?_setCell_far]) ((first | (go_at_call 90; refine (mulN_any _ _ _ ‹_› ‹_›).mono ?_; rintro e w' ⟨rfl, rfl⟩) | (go_at_call 89; refine (cut_any _ _ ⟨by omega, by omega⟩).mono ?_; rintro e w' ⟨rfl, rfl⟩)))
  go_wp2
  rw [rounds_succ]
  go_wp2
  go_region_held3 (fun w' => (w'.cell? ⟨w.heap.size, 0, none⟩ = some (.int .u8 r) ∧ w'.cell? ⟨w.heap.size, 1, none⟩ = some (.int .u8 g) ∧ w'.cell? ⟨w.heap.size, 2, none⟩ = some (.int .u8 b) ∧ w'.cell? ⟨w.heap.size, 3, none⟩ = some (.int .u8 a)) ∧ (w'.cell? ⟨w.heap.size + 1, 0, none⟩ = some (.int .u8 p) ∧ w'.cell? ⟨w.heap.size + 1, 1, none⟩ = some (.int .u8 q) ∧ w'.cell? ⟨w.heap.size + 1, 2, none⟩ = some (.int .u8 s) ∧ w'.cell? ⟨w.heap.size + 1, 3, none⟩ = some (.int .u8 c))) (simp [go_sem, World.cell?_alloc_past, World.cell?_setCell_far]) ((first | (go_at_call 90; refine (mulN_any _ _ _ ‹_› ‹_›).mono ?_; rintro e w' ⟨rfl, rfl⟩) | (go_at_call 89; refine (cut_any _ _ ⟨by omega, by omega⟩).mono ?_; rintro e w' ⟨rfl, rfl⟩)))
  go_wp2
  rw [rounds_succ]
  go_wp2
  simp [bodyPost, results, Try.results77, go_sem, cmp]
  go_grown

theorem below_drewN {B : Nat} {a w : World} (h : Below B a w) (n : Nat) : Below B a (w.drewN n) := ⟨h.os, h.tape, h.output, h.size, h.block⟩
/-- a callee that draws nothing, met where draws were made ahead -/
theorem quiet_more {P : Program} {f : FuncId} {args : Array Value} {w : World} {k n : Nat} {v : Value}
    (h : Calls P f args (w.drewN (k + n)) fun e w' => e = .returned v ∧ w' = w.drewN (k + n)) : Calls P f args (w.drewN (k + n)) fun e w'' => e = .returned v ∧ ∃ m, w'' = w.drewN (k + m) :=
  h.mono fun _ _ ⟨he, hm⟩ => ⟨he, n, hm⟩

set_option maxHeartbeats 4000000 in
theorem refComp_any (op r g b a p q s c : Int) (w : World) (ho : op = 0) (hr : 0 ≤ r ∧ r ≤ 255) (hg : 0 ≤ g ∧ g ≤ 255) (hb : 0 ≤ b ∧ b ≤ 255) (ha : 0 ≤ a ∧ a ≤ 255) (hp : 0 ≤ p ∧ p ≤ 255) (hq : 0 ≤ q ∧ q ≤ 255) (hs : 0 ≤ s ∧ s ≤ 255) (hc : 0 ≤ c ∧ c ≤ 255) :
    Calls Try.prog 80 #[.int .i64 op, .agg #[.int .u8 r, .int .u8 g, .int .u8 b, .int .u8 a], .agg #[.int .u8 p, .int .u8 q, .int .u8 s, .int .u8 c]] w fun e w' => e = .returned (.agg #[.int .u8 (cmp op r p a c), .int .u8 (cmp op g q a c), .int .u8 (cmp op b s a c), .int .u8 (cmp op a c a c)]) ∧ Below w.heap.size w w' := by
  have la := less_bd ha
  have lc := less_bd hc
  have wa : IntKind.u8.wrap (255 - a) = 255 - a := by rw [IntKind.wrap_u8]; omega
  have wc : IntKind.u8.wrap (255 - c) = 255 - c := by rw [IntKind.wrap_u8]; omega
  have x0 := mul_bd hr hc
  have y0 := mul_bd hr lc
  have z0 := mul_bd hp la
  have e0 := cmp_doc (op := op) (b := p) (A := a) (B := c) hr
  have x1 := mul_bd hg hc
  have y1 := mul_bd hg lc
  have z1 := mul_bd hq la
  have e1 := cmp_doc (op := op) (b := q) (A := a) (B := c) hg
  have x2 := mul_bd hb hc
  have y2 := mul_bd hb lc
  have z2 := mul_bd hs la
  have e2 := cmp_doc (op := op) (b := s) (A := a) (B := c) hb
  have x3 := mul_bd ha hc
  have y3 := mul_bd ha lc
  have z3 := mul_bd hc la
  have e3 := cmp_doc (op := op) (b := c) (A := a) (B := c) ha
  rw [← e0, ← e1, ← e2, ← e3]
  clear e0 e1 e2 e3
  obtain ⟨x00, x01⟩ := id x0
  obtain ⟨y00, y01⟩ := id y0
  obtain ⟨z00, z01⟩ := id z0
  obtain ⟨x10, x11⟩ := id x1
  obtain ⟨y10, y11⟩ := id y1
  obtain ⟨z10, z11⟩ := id z1
  obtain ⟨x20, x21⟩ := id x2
  obtain ⟨y20, y21⟩ := id y2
  obtain ⟨z20, z21⟩ := id z2
  obtain ⟨x30, x31⟩ := id x3
  obtain ⟨y30, y31⟩ := id y3
  obtain ⟨z30, z31⟩ := id z3
  obtain ⟨hr0, hr1⟩ := id hr
  obtain ⟨hg0, hg1⟩ := id hg
  obtain ⟨hb0, hb1⟩ := id hb
  obtain ⟨ha0, ha1⟩ := id ha
  subst ho
  all_goals
    go_enter Try.func80, Try.ntmps80
    go_wp2
    refine wp_loop_rounds 5 ?_
    rw [rounds_succ]
    go_wp2
    go_quiet (first | (go_at_call 92; refine Calls.quiet_of_same (by_any _ _ _ ‹_› ‹_›)) | (go_at_call 92; refine quiet_more (by_any _ _ _ ‹_› ‹_›)))
    go_wp2
    go_quiet (first | (go_at_call 92; refine Calls.quiet_of_same (by_any _ _ _ ‹_› ‹_›)) | (go_at_call 92; refine quiet_more (by_any _ _ _ ‹_› ‹_›)))
    go_wp2
    go_quiet (first | (go_at_call 92; refine Calls.quiet_of_same (by_any _ _ _ ‹_› ‹_›)) | (go_at_call 92; refine quiet_more (by_any _ _ _ ‹_› ‹_›)))
    go_wp2_with (go_at_call 93; refine (refCut_any _ _ ⟨by omega, by omega⟩).mono ?_; rintro e w' ⟨rfl, rfl⟩)
    rw [rounds_succ]
    go_wp2
    go_quiet (first | (go_at_call 92; refine Calls.quiet_of_same (by_any _ _ _ ‹_› ‹_›)) | (go_at_call 92; refine quiet_more (by_any _ _ _ ‹_› ‹_›)))
    go_wp2
    go_quiet (first | (go_at_call 92; refine Calls.quiet_of_same (by_any _ _ _ ‹_› ‹_›)) | (go_at_call 92; refine quiet_more (by_any _ _ _ ‹_› ‹_›)))
    go_wp2
    go_quiet (first | (go_at_call 92; refine Calls.quiet_of_same (by_any _ _ _ ‹_› ‹_›)) | (go_at_call 92; refine quiet_more (by_any _ _ _ ‹_› ‹_›)))
    go_wp2_with (go_at_call 93; refine (refCut_any _ _ ⟨by omega, by omega⟩).mono ?_; rintro e w' ⟨rfl, rfl⟩)
    rw [rounds_succ]
    go_wp2
    go_quiet (first | (go_at_call 92; refine Calls.quiet_of_same (by_any _ _ _ ‹_› ‹_›)) | (go_at_call 92; refine quiet_more (by_any _ _ _ ‹_› ‹_›)))
    go_wp2
    go_quiet (first | (go_at_call 92; refine Calls.quiet_of_same (by_any _ _ _ ‹_› ‹_›)) | (go_at_call 92; refine quiet_more (by_any _ _ _ ‹_› ‹_›)))
    go_wp2
    go_quiet (first | (go_at_call 92; refine Calls.quiet_of_same (by_any _ _ _ ‹_› ‹_›)) | (go_at_call 92; refine quiet_more (by_any _ _ _ ‹_› ‹_›)))
    go_wp2_with (go_at_call 93; refine (refCut_any _ _ ⟨by omega, by omega⟩).mono ?_; rintro e w' ⟨rfl, rfl⟩)
    rw [rounds_succ]
    go_wp2
    go_quiet (first | (go_at_call 92; refine Calls.quiet_of_same (by_any _ _ _ ‹_› ‹_›)) | (go_at_call 92; refine quiet_more (by_any _ _ _ ‹_› ‹_›)))
    go_wp2
    go_quiet (first | (go_at_call 92; refine Calls.quiet_of_same (by_any _ _ _ ‹_› ‹_›)) | (go_at_call 92; refine quiet_more (by_any _ _ _ ‹_› ‹_›)))
    go_wp2
    go_quiet (first | (go_at_call 92; refine Calls.quiet_of_same (by_any _ _ _ ‹_› ‹_›)) | (go_at_call 92; refine quiet_more (by_any _ _ _ ‹_› ‹_›)))
    go_wp2_with (go_at_call 93; refine (refCut_any _ _ ⟨by omega, by omega⟩).mono ?_; rintro e w' ⟨rfl, rfl⟩)
    rw [rounds_succ]
    go_wp2
    simp [bodyPost, results, Try.results80, go_sem, doc]
    repeat (go_grown; with_reducible refine below_drewN ?_ _)
    go_grown
end Go.Proofs.Ytfgfgfmimejpdaa.Tn
namespace Go.Proofs.Ytfgfgfmimejpdaa
open Num Go.RowKit
set_option linter.unusedVariables false
/-- a pixel on top of another; a pixel scaled -/
def overX (a b : X) : X := ⟨Tn.cmp 0 a.c0 b.c0 a.c3 b.c3, Tn.cmp 0 a.c1 b.c1 a.c3 b.c3, Tn.cmp 0 a.c2 b.c2 a.c3 b.c3, Tn.cmp 0 a.c3 b.c3 a.c3 b.c3⟩
def scaleX (p : X) (k : Int) : X := ⟨Tn.mulI p.c0 k, Tn.mulI p.c1 k, Tn.mulI p.c2 k, Tn.mulI p.c3 k⟩
theorem over_byte (a b : X) : byteX (overX a b) := ⟨Tn.cmp_bd _ _ _ _ _, Tn.cmp_bd _ _ _ _ _, Tn.cmp_bd _ _ _ _ _, Tn.cmp_bd _ _ _ _ _⟩
theorem scale_byte {p : X} {k : Int} (hp : byteX p) (hk : 0 ≤ k ∧ k ≤ 255) : byteX (scaleX p k) := ⟨Tn.mul_bd hp.1 hk, Tn.mul_bd hp.2.1 hk, Tn.mul_bd hp.2.2.1 hk, Tn.mul_bd hp.2.2.2 hk⟩
theorem over_none {b : X} (hb : byteX b) : overX noX b = b := X_ext (Tn.cmp_none hb.1 (.inl rfl)) (Tn.cmp_none hb.2.1 (.inl rfl)) (Tn.cmp_none hb.2.2.1 (.inl rfl)) (Tn.cmp_none hb.2.2.2 (.inl rfl))
theorem over_onto {a : X} (ha : byteX a) : overX a noX = a := X_ext (Tn.cmp_onto ha.1 (.inl rfl)) (Tn.cmp_onto ha.2.1 (.inl rfl)) (Tn.cmp_onto ha.2.2.1 (.inl rfl)) (Tn.cmp_onto ha.2.2.2 (.inl rfl))
theorem over_right {a b : X} (ha : byteX a) (hb : byteX b) (ra : rightX a) (rb : rightX b) : rightX (overX a b) := ⟨Tn.cmp_right ⟨ha.1.1, ra.1⟩ ⟨hb.1.1, rb.1⟩ ha.2.2.2.2 hb.2.2.2.2, Tn.cmp_right ⟨ha.2.1.1, ra.2.1⟩ ⟨hb.2.1.1, rb.2.1⟩ ha.2.2.2.2 hb.2.2.2.2, Tn.cmp_right ⟨ha.2.2.1.1, ra.2.2⟩ ⟨hb.2.2.1.1, rb.2.2⟩ ha.2.2.2.2 hb.2.2.2.2⟩
theorem scale_right {p : X} {k : Int} (hk : 0 ≤ k) (rp : rightX p) : rightX (scaleX p k) := ⟨Tn.mul_mono rp.1 hk, Tn.mul_mono rp.2.1 hk, Tn.mul_mono rp.2.2 hk⟩
theorem scale_no (k : Int) : scaleX noX k = noX := X_ext (Tn.mul_0' _) (Tn.mul_0' _) (Tn.mul_0' _) (Tn.mul_0' _)
theorem over_any (a b : X) (w : World) (ha : byteX a) (hb : byteX b) : Calls Try.prog 77 #[.int .i64 0, pxV a, pxV b] w fun e w' => e = .returned (pxV (overX a b)) ∧ Below w.heap.size w w' :=
  Tn.comp_any 0 a.c0 a.c1 a.c2 a.c3 b.c0 b.c1 b.c2 b.c3 w (by decide) ha.1 ha.2.1 ha.2.2.1 ha.2.2.2 hb.1 hb.2.1 hb.2.2.1 hb.2.2.2
theorem refOver_any (a b : X) (w : World) (ha : byteX a) (hb : byteX b) : Calls Try.prog 80 #[.int .i64 0, pxV a, pxV b] w fun e w' => e = .returned (pxV (overX a b)) ∧ Below w.heap.size w w' :=
  Tn.refComp_any 0 a.c0 a.c1 a.c2 a.c3 b.c0 b.c1 b.c2 b.c3 w rfl ha.1 ha.2.1 ha.2.2.1 ha.2.2.2 hb.1 hb.2.1 hb.2.2.1 hb.2.2.2
theorem two_blocks {w : World} {w' : World} {t : TypeId} (h : ∃ (c1 c2 : Array Value) (n : Nat), w' = ((w.alloc (.cells c1 t)).alloc (.cells c2 t)).drewN n) : Below w.heap.size w w' := by
  obtain ⟨c1, c2, n, rfl⟩ := h
  exact below_drewN (((Below.refl _ _).alloc (Nat.le_refl _) _).alloc (by simp) _) n
theorem scale_any (p : X) (k : Int) (w : World) (hp : byteX p) (hk : 0 ≤ k ∧ k ≤ 255) : Calls Try.prog 56 #[pxV p, .int .u8 k] w fun e w' => e = .returned (pxV (scaleX p k)) ∧ Below w.heap.size w w' :=
  (Tn.scale_any p.c0 p.c1 p.c2 p.c3 w hp.1 hp.2.1 hp.2.2.1 hp.2.2.2 k hk).mono fun _ _ ⟨he, hw⟩ => ⟨he, two_blocks hw⟩
theorem refScale_any (p : X) (k : Int) (w : World) (hp : byteX p) (hk : 0 ≤ k ∧ k ≤ 255) : Calls Try.prog 59 #[pxV p, .int .u8 k] w fun e w' => e = .returned (pxV (scaleX p k)) ∧ Below w.heap.size w w' :=
  (Tn.refScale_any p.c0 p.c1 p.c2 p.c3 w hp.1 hp.2.1 hp.2.2.1 hp.2.2.2 k hk).mono fun _ _ ⟨he, hw⟩ => ⟨he, two_blocks hw⟩
end Go.Proofs.Ytfgfgfmimejpdaa
