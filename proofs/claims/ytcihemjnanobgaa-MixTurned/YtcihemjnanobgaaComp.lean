/- What Composite does, as a contract. -/
import Derived.Handy
import Derived.Test.YtcihemjnanobgaaMixes
namespace Go.Proofs.Ytcihemjnanobgaa
open Num Go.RowKit
set_option linter.unusedVariables false
set_option linter.unusedSimpArgs false
attribute [local go_sem ↓] Go.wp_at_zero Go.wp_at_succ

set_option maxHeartbeats 2000000 in
theorem comp_any (op r g b a p q s c : Int) (w : World) (ho : 0 ≤ op ∧ op ≤ 5) (hr : 0 ≤ r ∧ r ≤ 255) (hg : 0 ≤ g ∧ g ≤ 255) (hb : 0 ≤ b ∧ b ≤ 255) (ha : 0 ≤ a ∧ a ≤ 255) (hp : 0 ≤ p ∧ p ≤ 255) (hq : 0 ≤ q ∧ q ≤ 255) (hs : 0 ≤ s ∧ s ≤ 255) (hc : 0 ≤ c ∧ c ≤ 255) :
    Calls Try.prog 11 #[.int .i64 op, .agg #[.int .u8 r, .int .u8 g, .int .u8 b, .int .u8 a], .agg #[.int .u8 p, .int .u8 q, .int .u8 s, .int .u8 c]] w fun e w' => e = .returned (.agg #[.int .u8 (cmp op r p a c), .int .u8 (cmp op g q a c), .int .u8 (cmp op b s a c), .int .u8 (cmp op a c a c)]) ∧ Below w.heap.size w w' := by
  have sa := sA_bd op ha hc
  have sb := sB_bd op ha hc
  have x0 := mul_bd hr sa
  have y0 := mul_bd hp sb
  have e0 : IntKind.i64.wrap (mulI r (sA op a c) + mulI p (sB op a c)) = mulI r (sA op a c) + mulI p (sB op a c) := by rw [IntKind.wrap_i64]; omega
  have x1 := mul_bd hg sa
  have y1 := mul_bd hq sb
  have e1 : IntKind.i64.wrap (mulI g (sA op a c) + mulI q (sB op a c)) = mulI g (sA op a c) + mulI q (sB op a c) := by rw [IntKind.wrap_i64]; omega
  have x2 := mul_bd hb sa
  have y2 := mul_bd hs sb
  have e2 : IntKind.i64.wrap (mulI b (sA op a c) + mulI s (sB op a c)) = mulI b (sA op a c) + mulI s (sB op a c) := by rw [IntKind.wrap_i64]; omega
  have x3 := mul_bd ha sa
  have y3 := mul_bd hc sb
  have e3 : IntKind.i64.wrap (mulI a (sA op a c) + mulI c (sB op a c)) = mulI a (sA op a c) + mulI c (sB op a c) := by rw [IntKind.wrap_i64]; omega
  go_enter Try.func11, Try.ntmps11
  go_wp2_with (go_at_call 19; refine (shares_any _ _ _ _ ‹_› ‹_› ‹_›).mono ?_; rintro e w' ⟨rfl, rfl⟩)
  refine wp_loop_rounds 5 ?_
  rw [rounds_succ]
  go_wp2
  go_region_held3 (fun w' => (w'.cell? ⟨w.heap.size, 0, none⟩ = some (.int .u8 r) ∧ w'.cell? ⟨w.heap.size, 1, none⟩ = some (.int .u8 g) ∧ w'.cell? ⟨w.heap.size, 2, none⟩ = some (.int .u8 b) ∧ w'.cell? ⟨w.heap.size, 3, none⟩ = some (.int .u8 a)) ∧ (w'.cell? ⟨w.heap.size + 1, 0, none⟩ = some (.int .u8 p) ∧ w'.cell? ⟨w.heap.size + 1, 1, none⟩ = some (.int .u8 q) ∧ w'.cell? ⟨w.heap.size + 1, 2, none⟩ = some (.int .u8 s) ∧ w'.cell? ⟨w.heap.size + 1, 3, none⟩ = some (.int .u8 c))) (simp [go_sem, World.cell?_alloc_past, World.cell?_setCell_far]) ((first | (go_at_call 21; refine (mulN_any _ _ _ ‹_› ‹_›).mono ?_; rintro e w' ⟨rfl, rfl⟩) | (go_at_call 20; refine (cut_any _ _ ⟨by omega, by omega⟩).mono ?_; rintro e w' ⟨rfl, rfl⟩)))
  go_wp2
  rw [rounds_succ]
  go_wp2
  go_region_held3 (fun w' => (w'.cell? ⟨w.heap.size, 0, none⟩ = some (.int .u8 r) ∧ w'.cell? ⟨w.heap.size, 1, none⟩ = some (.int .u8 g) ∧ w'.cell? ⟨w.heap.size, 2, none⟩ = some (.int .u8 b) ∧ w'.cell? ⟨w.heap.size, 3, none⟩ = some (.int .u8 a)) ∧ (w'.cell? ⟨w.heap.size + 1, 0, none⟩ = some (.int .u8 p) ∧ w'.cell? ⟨w.heap.size + 1, 1, none⟩ = some (.int .u8 q) ∧ w'.cell? ⟨w.heap.size + 1, 2, none⟩ = some (.int .u8 s) ∧ w'.cell? ⟨w.heap.size + 1, 3, none⟩ = some (.int .u8 c))) (simp [go_sem, World.cell?_alloc_past, World.cell?_setCell_far]) ((first | (go_at_call 21; refine (mulN_any _ _ _ ‹_› ‹_›).mono ?_; rintro e w' ⟨rfl, rfl⟩) | (go_at_call 20; refine (cut_any _ _ ⟨by omega, by omega⟩).mono ?_; rintro e w' ⟨rfl, rfl⟩)))
  go_wp2
  rw [rounds_succ]
  go_wp2
  go_region_held3 (fun w' => (w'.cell? ⟨w.heap.size, 0, none⟩ = some (.int .u8 r) ∧ w'.cell? ⟨w.heap.size, 1, none⟩ = some (.int .u8 g) ∧ w'.cell? ⟨w.heap.size, 2, none⟩ = some (.int .u8 b) ∧ w'.cell? ⟨w.heap.size, 3, none⟩ = some (.int .u8 a)) ∧ (w'.cell? ⟨w.heap.size + 1, 0, none⟩ = some (.int .u8 p) ∧ w'.cell? ⟨w.heap.size + 1, 1, none⟩ = some (.int .u8 q) ∧ w'.cell? ⟨w.heap.size + 1, 2, none⟩ = some (.int .u8 s) ∧ w'.cell? ⟨w.heap.size + 1, 3, none⟩ = some (.int .u8 c))) (simp [go_sem, World.cell?_alloc_past, World.cell?_setCell_far]) ((first | (go_at_call 21; refine (mulN_any _ _ _ ‹_› ‹_›).mono ?_; rintro e w' ⟨rfl, rfl⟩) | (go_at_call 20; refine (cut_any _ _ ⟨by omega, by omega⟩).mono ?_; rintro e w' ⟨rfl, rfl⟩)))
  go_wp2
  rw [rounds_succ]
  go_wp2
  go_region_held3 (fun w' => (w'.cell? ⟨w.heap.size, 0, none⟩ = some (.int .u8 r) ∧ w'.cell? ⟨w.heap.size, 1, none⟩ = some (.int .u8 g) ∧ w'.cell? ⟨w.heap.size, 2, none⟩ = some (.int .u8 b) ∧ w'.cell? ⟨w.heap.size, 3, none⟩ = some (.int .u8 a)) ∧ (w'.cell? ⟨w.heap.size + 1, 0, none⟩ = some (.int .u8 p) ∧ w'.cell? ⟨w.heap.size + 1, 1, none⟩ = some (.int .u8 q) ∧ w'.cell? ⟨w.heap.size + 1, 2, none⟩ = some (.int .u8 s) ∧ w'.cell? ⟨w.heap.size + 1, 3, none⟩ = some (.int .u8 c))) (simp [go_sem, World.cell?_alloc_past, World.cell?_setCell_far]) ((first | (go_at_call 21; refine (mulN_any _ _ _ ‹_› ‹_›).mono ?_; rintro e w' ⟨rfl, rfl⟩) | (go_at_call 20; refine (cut_any _ _ ⟨by omega, by omega⟩).mono ?_; rintro e w' ⟨rfl, rfl⟩)))
  go_wp2
  rw [rounds_succ]
  go_wp2
  simp [bodyPost, results, Try.results11, go_sem, cmp]
  go_grown
end Go.Proofs.Ytcihemjnanobgaa
