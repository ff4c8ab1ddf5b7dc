/- For every right pixel: nothing on top changes nothing, but by In, Out and Clear; onto nothing it stays, but by In, Atop and Clear; no condition. -/
import Derived.Test.YtcihemjnanobgaaRows
import Derived.WalkKit
import Derived.ProofKit
import Derived.OpenShut
import Derived.Test.YtcihemjnanobgaaOpen
import Derived.Test.YtcihemjnanobgaaAwake
namespace Go.Proofs.Ytcihemjnanobgaa.mixNothing
open Go.ChangeShapes Go.WideShapes Go.ChangeAt Go.RowKit Num
set_option linter.unusedVariables false
set_option linter.unusedSimpArgs false

theorem rem6 {n : Int} (h : 0 ≤ n ∧ n ≤ 255) : 0 ≤ n % 6 ∧ n % 6 ≤ 5 := by omega
theorem rem7 {n : Int} (h : 0 ≤ n ∧ n ≤ 255) : 0 ≤ n % 7 ∧ n % 7 ≤ 6 := by omega
theorem wr6 {n : Int} (h : 0 ≤ n ∧ n ≤ 255) : IntKind.i64.wrap (n.tmod 6) = n % 6 := by rw [Int.tmod_eq_emod_of_nonneg h.1, IntKind.wrap_i64]; omega
theorem wr7 {n : Int} (h : 0 ≤ n ∧ n ≤ 255) : IntKind.i64.wrap (n.tmod 7) = n % 7 := by rw [Int.tmod_eq_emod_of_nonneg h.1, IntKind.wrap_i64]; omega

theorem righty {r g b a : Int} (h : rightB r g b a = true) : r ≤ a ∧ g ≤ a ∧ b ≤ a := by
  simp only [rightB, Bool.and_eq_true, decide_eq_true_eq] at h; omega
theorem none_of {w w1 : World} {r g b a : Int} (hB : Below w.heap.size w w1) (hP : Has4 w1 w.heap.size (.int .u8 r) (.int .u8 g) (.int .u8 b) (.int .u8 a)) : Sz w w.heap.size w1.heap.size (.int .u8 r) (.int .u8 g) (.int .u8 b) (.int .u8 a) (.int .u8 0) (.int .u8 0) (.int .u8 0) (.int .u8 0) (w1.alloc (.cells #[.int .u8 0, .int .u8 0, .int .u8 0, .int .u8 0] 23)) := by
  have g1 := hP.alloc (.cells #[.int .u8 0, .int .u8 0, .int .u8 0, .int .u8 0] 23)
  have g2 : Has4 (w1.alloc (.cells #[.int .u8 0, .int .u8 0, .int .u8 0, .int .u8 0] 23)) w1.heap.size (.int .u8 0) (.int .u8 0) (.int .u8 0) (.int .u8 0) := Has4.new rfl _ _ _ _ _
  exact ⟨⟨g1.c0, g1.c1, g1.c2, g1.c3⟩, ⟨g2.c0, g2.c1, g2.c2, g2.c3⟩, via (w := w) hB ((Below.refl _ _).alloc (Nat.le_refl _) _)⟩

set_option maxHeartbeats 2000000 in
theorem walk0 (k r g b a : Int) (w : World) (hk : 0 ≤ k ∧ k ≤ 255) (hr : 0 ≤ r ∧ r ≤ 255) (hg : 0 ≤ g ∧ g ≤ 255) (hb : 0 ≤ b ∧ b ≤ 255) (ha : 0 ≤ a ∧ a ≤ 255) (hR : rightB r g b a = true) (h6 : k % 6 = 0) :
    Calls Try.prog 6 #[.int .u8 k, .agg #[.int .u8 r, .int .u8 g, .int .u8 b, .int .u8 a]] w fun e w' => e = .returned (.bool true) ∧ Below w.heap.size w w' := by
  have hE := eqPx
  obtain ⟨e1, e2, e3⟩ := righty hR
  have ho := rem7 hk
  have hz : (0:Int) ≤ 0 ∧ (0:Int) ≤ 255 := by decide
  have h5 : (0:Int) ≤ 5 ∧ (5:Int) ≤ 5 := by decide
  have hop : (0:Int) ≤ 0 ∧ (0:Int) ≤ 5 := by decide
  have n0 : bl (k % 7) 0 r 0 a = r := bl_none ⟨hr.1, e1⟩ ha.2 ho
  have o0 : bl (k % 7) r 0 a 0 = r := bl_onto ⟨hr.1, e1⟩ ha.2 ho
  have n1 : bl (k % 7) 0 g 0 a = g := bl_none ⟨hg.1, e2⟩ ha.2 ho
  have o1 : bl (k % 7) g 0 a 0 = g := bl_onto ⟨hg.1, e2⟩ ha.2 ho
  have n2 : bl (k % 7) 0 b 0 a = b := bl_none ⟨hb.1, e3⟩ ha.2 ho
  have o2 : bl (k % 7) b 0 a 0 = b := bl_onto ⟨hb.1, e3⟩ ha.2 ho
  have n3 : ba (k % 7) 0 a = a := ba_none ha
  have o3 : ba (k % 7) a 0 = a := ba_onto ha
  have c0 : cmp 5 r r a a = 0 := cmp_clear _ _ _ _
  have c1 : cmp 5 g g a a = 0 := cmp_clear _ _ _ _
  have c2 : cmp 5 b b a a = 0 := cmp_clear _ _ _ _
  have c3 : cmp 5 a a a a = 0 := cmp_clear _ _ _ _
  have d0 : cmp 0 0 r 0 a = r := cmp_none hr (by decide)
  have d1 : cmp 0 0 g 0 a = g := cmp_none hg (by decide)
  have d2 : cmp 0 0 b 0 a = b := cmp_none hb (by decide)
  have d3 : cmp 0 0 a 0 a = a := cmp_none ha (by decide)
  have f0 : cmp 0 r 0 a 0 = r := cmp_onto hr (by decide)
  have f1 : cmp 0 g 0 a 0 = g := cmp_onto hg (by decide)
  have f2 : cmp 0 b 0 a 0 = b := cmp_onto hb (by decide)
  have f3 : cmp 0 a 0 a 0 = a := cmp_onto ha (by decide)
  clear e1 e2 e3
  go_enter Try.func6, Try.ntmps6
  go_wp2_with (first | (go_at_call 18; with_reducible refine Calls.mono (refRight_b _ _ _ _ _ ‹_› ‹_› ‹_› ‹_›) ?_; rintro e w' ⟨rfl, hb⟩; have hB := via (w := w) (by go_grown) hb; have hP : Has4 w' w.heap.size (.int .u8 r) (.int .u8 g) (.int .u8 b) (.int .u8 a) := (Has4.new rfl _ _ _ _ _).below hb; obtain ⟨p0, p1, p2, p3, pf⟩ := id hP; clear hb))
  have hS : Sz w w.heap.size w'.heap.size (.int .u8 r) (.int .u8 g) (.int .u8 b) (.int .u8 a) (.int .u8 0) (.int .u8 0) (.int .u8 0) (.int .u8 0) (w'.alloc (.cells #[.int .u8 0, .int .u8 0, .int .u8 0, .int .u8 0] 23)) := none_of hB hP
  clear p0 p1 p2 p3 pf hP hB
  obtain ⟨n, hn⟩ : ∃ n, n = w'.heap.size := ⟨_, rfl⟩
  obtain ⟨w2, hw2⟩ : ∃ w2, w2 = (w'.alloc (.cells #[.int .u8 0, .int .u8 0, .int .u8 0, .int .u8 0] 23)) := ⟨_, rfl⟩
  rw [← hn, ← hw2] at hS
  rw [← hn, ← hw2]
  clear hn hw2
  go_region_held3 (fun w9 => (w9.cell? ⟨w.heap.size, 0, none⟩ = some (.int .u8 r) ∧ w9.cell? ⟨w.heap.size, 1, none⟩ = some (.int .u8 g) ∧ w9.cell? ⟨w.heap.size, 2, none⟩ = some (.int .u8 b) ∧ w9.cell? ⟨w.heap.size, 3, none⟩ = some (.int .u8 a)) ∧ (w9.cell? ⟨n, 0, none⟩ = some (.int .u8 0) ∧ w9.cell? ⟨n, 1, none⟩ = some (.int .u8 0) ∧ w9.cell? ⟨n, 2, none⟩ = some (.int .u8 0) ∧ w9.cell? ⟨n, 3, none⟩ = some (.int .u8 0)) ∧ Kept w w9) (repeat (first | with_reducible assumption | with_reducible refine sz_drew ?_ | with_reducible refine sz_below ?_ ‹_›)) ((first | (go_at_call 13; with_reducible refine Calls.mono (blend_any _ _ _ _ _ _ _ _ _ _ ‹_› ‹_› ‹_› ‹_› ‹_› ‹_› ‹_› ‹_› ‹_›) ?_; rintro e w1 ⟨rfl, hb⟩) | (go_at_call 11; with_reducible refine Calls.mono (comp_any _ _ _ _ _ _ _ _ _ _ ‹_› ‹_› ‹_› ‹_› ‹_› ‹_› ‹_› ‹_› ‹_›) ?_; rintro e w1 ⟨rfl, hb⟩)))
  go_wp2
  go_region_held3 (fun w9 => (w9.cell? ⟨w.heap.size, 0, none⟩ = some (.int .u8 r) ∧ w9.cell? ⟨w.heap.size, 1, none⟩ = some (.int .u8 g) ∧ w9.cell? ⟨w.heap.size, 2, none⟩ = some (.int .u8 b) ∧ w9.cell? ⟨w.heap.size, 3, none⟩ = some (.int .u8 a)) ∧ (w9.cell? ⟨n, 0, none⟩ = some (.int .u8 0) ∧ w9.cell? ⟨n, 1, none⟩ = some (.int .u8 0) ∧ w9.cell? ⟨n, 2, none⟩ = some (.int .u8 0) ∧ w9.cell? ⟨n, 3, none⟩ = some (.int .u8 0)) ∧ Kept w w9) (repeat (first | with_reducible assumption | with_reducible refine sz_drew ?_ | with_reducible refine sz_below ?_ ‹_›)) ((first | (go_at_call 10; with_reducible refine Calls.mono (awake_any _) ?_; rintro e w1 ⟨rfl, hb⟩) | (go_at_call 11; with_reducible refine Calls.mono (comp_any _ _ _ _ _ _ _ _ _ _ ‹_› ‹_› ‹_› ‹_› ‹_› ‹_› ‹_› ‹_› ‹_›) ?_; rintro e w1 ⟨rfl, hb⟩)))
  go_wp2
  go_ret
  exact ⟨rfl, sz_out (p := w.heap.size) (q := n) (v0 := .int .u8 r) (v1 := .int .u8 g) (v2 := .int .u8 b) (v3 := .int .u8 a) (u0 := .int .u8 0) (u1 := .int .u8 0) (u2 := .int .u8 0) (u3 := .int .u8 0) (by (repeat (first | with_reducible assumption | with_reducible refine sz_drew ?_ | with_reducible refine sz_below ?_ ‹_›)))⟩

set_option maxHeartbeats 2000000 in
theorem walk1 (k r g b a : Int) (w : World) (hk : 0 ≤ k ∧ k ≤ 255) (hr : 0 ≤ r ∧ r ≤ 255) (hg : 0 ≤ g ∧ g ≤ 255) (hb : 0 ≤ b ∧ b ≤ 255) (ha : 0 ≤ a ∧ a ≤ 255) (hR : rightB r g b a = true) (h6 : k % 6 = 1) :
    Calls Try.prog 6 #[.int .u8 k, .agg #[.int .u8 r, .int .u8 g, .int .u8 b, .int .u8 a]] w fun e w' => e = .returned (.bool true) ∧ Below w.heap.size w w' := by
  have hE := eqPx
  obtain ⟨e1, e2, e3⟩ := righty hR
  have ho := rem7 hk
  have hz : (0:Int) ≤ 0 ∧ (0:Int) ≤ 255 := by decide
  have h5 : (0:Int) ≤ 5 ∧ (5:Int) ≤ 5 := by decide
  have hop : (0:Int) ≤ 1 ∧ (1:Int) ≤ 5 := by decide
  have n0 : bl (k % 7) 0 r 0 a = r := bl_none ⟨hr.1, e1⟩ ha.2 ho
  have o0 : bl (k % 7) r 0 a 0 = r := bl_onto ⟨hr.1, e1⟩ ha.2 ho
  have n1 : bl (k % 7) 0 g 0 a = g := bl_none ⟨hg.1, e2⟩ ha.2 ho
  have o1 : bl (k % 7) g 0 a 0 = g := bl_onto ⟨hg.1, e2⟩ ha.2 ho
  have n2 : bl (k % 7) 0 b 0 a = b := bl_none ⟨hb.1, e3⟩ ha.2 ho
  have o2 : bl (k % 7) b 0 a 0 = b := bl_onto ⟨hb.1, e3⟩ ha.2 ho
  have n3 : ba (k % 7) 0 a = a := ba_none ha
  have o3 : ba (k % 7) a 0 = a := ba_onto ha
  have c0 : cmp 5 r r a a = 0 := cmp_clear _ _ _ _
  have c1 : cmp 5 g g a a = 0 := cmp_clear _ _ _ _
  have c2 : cmp 5 b b a a = 0 := cmp_clear _ _ _ _
  have c3 : cmp 5 a a a a = 0 := cmp_clear _ _ _ _
  have d0 : cmp 1 0 r 0 a = 0 := cmp_none' (by decide)
  have d1 : cmp 1 0 g 0 a = 0 := cmp_none' (by decide)
  have d2 : cmp 1 0 b 0 a = 0 := cmp_none' (by decide)
  have d3 : cmp 1 0 a 0 a = 0 := cmp_none' (by decide)
  clear e1 e2 e3
  go_enter Try.func6, Try.ntmps6
  go_wp2_with (first | (go_at_call 18; with_reducible refine Calls.mono (refRight_b _ _ _ _ _ ‹_› ‹_› ‹_› ‹_›) ?_; rintro e w' ⟨rfl, hb⟩; have hB := via (w := w) (by go_grown) hb; have hP : Has4 w' w.heap.size (.int .u8 r) (.int .u8 g) (.int .u8 b) (.int .u8 a) := (Has4.new rfl _ _ _ _ _).below hb; obtain ⟨p0, p1, p2, p3, pf⟩ := id hP; clear hb))
  have hS : Sz w w.heap.size w'.heap.size (.int .u8 r) (.int .u8 g) (.int .u8 b) (.int .u8 a) (.int .u8 0) (.int .u8 0) (.int .u8 0) (.int .u8 0) (w'.alloc (.cells #[.int .u8 0, .int .u8 0, .int .u8 0, .int .u8 0] 23)) := none_of hB hP
  clear p0 p1 p2 p3 pf hP hB
  obtain ⟨n, hn⟩ : ∃ n, n = w'.heap.size := ⟨_, rfl⟩
  obtain ⟨w2, hw2⟩ : ∃ w2, w2 = (w'.alloc (.cells #[.int .u8 0, .int .u8 0, .int .u8 0, .int .u8 0] 23)) := ⟨_, rfl⟩
  rw [← hn, ← hw2] at hS
  rw [← hn, ← hw2]
  clear hn hw2
  go_region_held3 (fun w9 => (w9.cell? ⟨w.heap.size, 0, none⟩ = some (.int .u8 r) ∧ w9.cell? ⟨w.heap.size, 1, none⟩ = some (.int .u8 g) ∧ w9.cell? ⟨w.heap.size, 2, none⟩ = some (.int .u8 b) ∧ w9.cell? ⟨w.heap.size, 3, none⟩ = some (.int .u8 a)) ∧ (w9.cell? ⟨n, 0, none⟩ = some (.int .u8 0) ∧ w9.cell? ⟨n, 1, none⟩ = some (.int .u8 0) ∧ w9.cell? ⟨n, 2, none⟩ = some (.int .u8 0) ∧ w9.cell? ⟨n, 3, none⟩ = some (.int .u8 0)) ∧ Kept w w9) (repeat (first | with_reducible assumption | with_reducible refine sz_drew ?_ | with_reducible refine sz_below ?_ ‹_›)) ((first | (go_at_call 13; with_reducible refine Calls.mono (blend_any _ _ _ _ _ _ _ _ _ _ ‹_› ‹_› ‹_› ‹_› ‹_› ‹_› ‹_› ‹_› ‹_›) ?_; rintro e w1 ⟨rfl, hb⟩) | (go_at_call 11; with_reducible refine Calls.mono (comp_any _ _ _ _ _ _ _ _ _ _ ‹_› ‹_› ‹_› ‹_› ‹_› ‹_› ‹_› ‹_› ‹_›) ?_; rintro e w1 ⟨rfl, hb⟩)))
  go_wp2
  go_region_held3 (fun w9 => (w9.cell? ⟨w.heap.size, 0, none⟩ = some (.int .u8 r) ∧ w9.cell? ⟨w.heap.size, 1, none⟩ = some (.int .u8 g) ∧ w9.cell? ⟨w.heap.size, 2, none⟩ = some (.int .u8 b) ∧ w9.cell? ⟨w.heap.size, 3, none⟩ = some (.int .u8 a)) ∧ (w9.cell? ⟨n, 0, none⟩ = some (.int .u8 0) ∧ w9.cell? ⟨n, 1, none⟩ = some (.int .u8 0) ∧ w9.cell? ⟨n, 2, none⟩ = some (.int .u8 0) ∧ w9.cell? ⟨n, 3, none⟩ = some (.int .u8 0)) ∧ Kept w w9) (repeat (first | with_reducible assumption | with_reducible refine sz_drew ?_ | with_reducible refine sz_below ?_ ‹_›)) ((first | (go_at_call 10; with_reducible refine Calls.mono (awake_any _) ?_; rintro e w1 ⟨rfl, hb⟩) | (go_at_call 11; with_reducible refine Calls.mono (comp_any _ _ _ _ _ _ _ _ _ _ ‹_› ‹_› ‹_› ‹_› ‹_› ‹_› ‹_› ‹_› ‹_›) ?_; rintro e w1 ⟨rfl, hb⟩)))
  go_wp2
  go_ret
  exact ⟨rfl, sz_out (p := w.heap.size) (q := n) (v0 := .int .u8 r) (v1 := .int .u8 g) (v2 := .int .u8 b) (v3 := .int .u8 a) (u0 := .int .u8 0) (u1 := .int .u8 0) (u2 := .int .u8 0) (u3 := .int .u8 0) (by (repeat (first | with_reducible assumption | with_reducible refine sz_drew ?_ | with_reducible refine sz_below ?_ ‹_›)))⟩

set_option maxHeartbeats 2000000 in
theorem walk2 (k r g b a : Int) (w : World) (hk : 0 ≤ k ∧ k ≤ 255) (hr : 0 ≤ r ∧ r ≤ 255) (hg : 0 ≤ g ∧ g ≤ 255) (hb : 0 ≤ b ∧ b ≤ 255) (ha : 0 ≤ a ∧ a ≤ 255) (hR : rightB r g b a = true) (h6 : k % 6 = 2) :
    Calls Try.prog 6 #[.int .u8 k, .agg #[.int .u8 r, .int .u8 g, .int .u8 b, .int .u8 a]] w fun e w' => e = .returned (.bool true) ∧ Below w.heap.size w w' := by
  have hE := eqPx
  obtain ⟨e1, e2, e3⟩ := righty hR
  have ho := rem7 hk
  have hz : (0:Int) ≤ 0 ∧ (0:Int) ≤ 255 := by decide
  have h5 : (0:Int) ≤ 5 ∧ (5:Int) ≤ 5 := by decide
  have hop : (0:Int) ≤ 2 ∧ (2:Int) ≤ 5 := by decide
  have n0 : bl (k % 7) 0 r 0 a = r := bl_none ⟨hr.1, e1⟩ ha.2 ho
  have o0 : bl (k % 7) r 0 a 0 = r := bl_onto ⟨hr.1, e1⟩ ha.2 ho
  have n1 : bl (k % 7) 0 g 0 a = g := bl_none ⟨hg.1, e2⟩ ha.2 ho
  have o1 : bl (k % 7) g 0 a 0 = g := bl_onto ⟨hg.1, e2⟩ ha.2 ho
  have n2 : bl (k % 7) 0 b 0 a = b := bl_none ⟨hb.1, e3⟩ ha.2 ho
  have o2 : bl (k % 7) b 0 a 0 = b := bl_onto ⟨hb.1, e3⟩ ha.2 ho
  have n3 : ba (k % 7) 0 a = a := ba_none ha
  have o3 : ba (k % 7) a 0 = a := ba_onto ha
  have c0 : cmp 5 r r a a = 0 := cmp_clear _ _ _ _
  have c1 : cmp 5 g g a a = 0 := cmp_clear _ _ _ _
  have c2 : cmp 5 b b a a = 0 := cmp_clear _ _ _ _
  have c3 : cmp 5 a a a a = 0 := cmp_clear _ _ _ _
  have d0 : cmp 2 0 r 0 a = 0 := cmp_none' (by decide)
  have d1 : cmp 2 0 g 0 a = 0 := cmp_none' (by decide)
  have d2 : cmp 2 0 b 0 a = 0 := cmp_none' (by decide)
  have d3 : cmp 2 0 a 0 a = 0 := cmp_none' (by decide)
  clear e1 e2 e3
  go_enter Try.func6, Try.ntmps6
  go_wp2_with (first | (go_at_call 18; with_reducible refine Calls.mono (refRight_b _ _ _ _ _ ‹_› ‹_› ‹_› ‹_›) ?_; rintro e w' ⟨rfl, hb⟩; have hB := via (w := w) (by go_grown) hb; have hP : Has4 w' w.heap.size (.int .u8 r) (.int .u8 g) (.int .u8 b) (.int .u8 a) := (Has4.new rfl _ _ _ _ _).below hb; obtain ⟨p0, p1, p2, p3, pf⟩ := id hP; clear hb))
  have hS : Sz w w.heap.size w'.heap.size (.int .u8 r) (.int .u8 g) (.int .u8 b) (.int .u8 a) (.int .u8 0) (.int .u8 0) (.int .u8 0) (.int .u8 0) (w'.alloc (.cells #[.int .u8 0, .int .u8 0, .int .u8 0, .int .u8 0] 23)) := none_of hB hP
  clear p0 p1 p2 p3 pf hP hB
  obtain ⟨n, hn⟩ : ∃ n, n = w'.heap.size := ⟨_, rfl⟩
  obtain ⟨w2, hw2⟩ : ∃ w2, w2 = (w'.alloc (.cells #[.int .u8 0, .int .u8 0, .int .u8 0, .int .u8 0] 23)) := ⟨_, rfl⟩
  rw [← hn, ← hw2] at hS
  rw [← hn, ← hw2]
  clear hn hw2
  go_region_held3 (fun w9 => (w9.cell? ⟨w.heap.size, 0, none⟩ = some (.int .u8 r) ∧ w9.cell? ⟨w.heap.size, 1, none⟩ = some (.int .u8 g) ∧ w9.cell? ⟨w.heap.size, 2, none⟩ = some (.int .u8 b) ∧ w9.cell? ⟨w.heap.size, 3, none⟩ = some (.int .u8 a)) ∧ (w9.cell? ⟨n, 0, none⟩ = some (.int .u8 0) ∧ w9.cell? ⟨n, 1, none⟩ = some (.int .u8 0) ∧ w9.cell? ⟨n, 2, none⟩ = some (.int .u8 0) ∧ w9.cell? ⟨n, 3, none⟩ = some (.int .u8 0)) ∧ Kept w w9) (repeat (first | with_reducible assumption | with_reducible refine sz_drew ?_ | with_reducible refine sz_below ?_ ‹_›)) ((first | (go_at_call 13; with_reducible refine Calls.mono (blend_any _ _ _ _ _ _ _ _ _ _ ‹_› ‹_› ‹_› ‹_› ‹_› ‹_› ‹_› ‹_› ‹_›) ?_; rintro e w1 ⟨rfl, hb⟩) | (go_at_call 11; with_reducible refine Calls.mono (comp_any _ _ _ _ _ _ _ _ _ _ ‹_› ‹_› ‹_› ‹_› ‹_› ‹_› ‹_› ‹_› ‹_›) ?_; rintro e w1 ⟨rfl, hb⟩)))
  go_wp2
  go_region_held3 (fun w9 => (w9.cell? ⟨w.heap.size, 0, none⟩ = some (.int .u8 r) ∧ w9.cell? ⟨w.heap.size, 1, none⟩ = some (.int .u8 g) ∧ w9.cell? ⟨w.heap.size, 2, none⟩ = some (.int .u8 b) ∧ w9.cell? ⟨w.heap.size, 3, none⟩ = some (.int .u8 a)) ∧ (w9.cell? ⟨n, 0, none⟩ = some (.int .u8 0) ∧ w9.cell? ⟨n, 1, none⟩ = some (.int .u8 0) ∧ w9.cell? ⟨n, 2, none⟩ = some (.int .u8 0) ∧ w9.cell? ⟨n, 3, none⟩ = some (.int .u8 0)) ∧ Kept w w9) (repeat (first | with_reducible assumption | with_reducible refine sz_drew ?_ | with_reducible refine sz_below ?_ ‹_›)) ((first | (go_at_call 10; with_reducible refine Calls.mono (awake_any _) ?_; rintro e w1 ⟨rfl, hb⟩) | (go_at_call 11; with_reducible refine Calls.mono (comp_any _ _ _ _ _ _ _ _ _ _ ‹_› ‹_› ‹_› ‹_› ‹_› ‹_› ‹_› ‹_› ‹_›) ?_; rintro e w1 ⟨rfl, hb⟩)))
  go_wp2
  go_ret
  exact ⟨rfl, sz_out (p := w.heap.size) (q := n) (v0 := .int .u8 r) (v1 := .int .u8 g) (v2 := .int .u8 b) (v3 := .int .u8 a) (u0 := .int .u8 0) (u1 := .int .u8 0) (u2 := .int .u8 0) (u3 := .int .u8 0) (by (repeat (first | with_reducible assumption | with_reducible refine sz_drew ?_ | with_reducible refine sz_below ?_ ‹_›)))⟩

set_option maxHeartbeats 2000000 in
theorem walk3 (k r g b a : Int) (w : World) (hk : 0 ≤ k ∧ k ≤ 255) (hr : 0 ≤ r ∧ r ≤ 255) (hg : 0 ≤ g ∧ g ≤ 255) (hb : 0 ≤ b ∧ b ≤ 255) (ha : 0 ≤ a ∧ a ≤ 255) (hR : rightB r g b a = true) (h6 : k % 6 = 3) :
    Calls Try.prog 6 #[.int .u8 k, .agg #[.int .u8 r, .int .u8 g, .int .u8 b, .int .u8 a]] w fun e w' => e = .returned (.bool true) ∧ Below w.heap.size w w' := by
  have hE := eqPx
  obtain ⟨e1, e2, e3⟩ := righty hR
  have ho := rem7 hk
  have hz : (0:Int) ≤ 0 ∧ (0:Int) ≤ 255 := by decide
  have h5 : (0:Int) ≤ 5 ∧ (5:Int) ≤ 5 := by decide
  have hop : (0:Int) ≤ 3 ∧ (3:Int) ≤ 5 := by decide
  have n0 : bl (k % 7) 0 r 0 a = r := bl_none ⟨hr.1, e1⟩ ha.2 ho
  have o0 : bl (k % 7) r 0 a 0 = r := bl_onto ⟨hr.1, e1⟩ ha.2 ho
  have n1 : bl (k % 7) 0 g 0 a = g := bl_none ⟨hg.1, e2⟩ ha.2 ho
  have o1 : bl (k % 7) g 0 a 0 = g := bl_onto ⟨hg.1, e2⟩ ha.2 ho
  have n2 : bl (k % 7) 0 b 0 a = b := bl_none ⟨hb.1, e3⟩ ha.2 ho
  have o2 : bl (k % 7) b 0 a 0 = b := bl_onto ⟨hb.1, e3⟩ ha.2 ho
  have n3 : ba (k % 7) 0 a = a := ba_none ha
  have o3 : ba (k % 7) a 0 = a := ba_onto ha
  have c0 : cmp 5 r r a a = 0 := cmp_clear _ _ _ _
  have c1 : cmp 5 g g a a = 0 := cmp_clear _ _ _ _
  have c2 : cmp 5 b b a a = 0 := cmp_clear _ _ _ _
  have c3 : cmp 5 a a a a = 0 := cmp_clear _ _ _ _
  have d0 : cmp 3 0 r 0 a = r := cmp_none hr (by decide)
  have d1 : cmp 3 0 g 0 a = g := cmp_none hg (by decide)
  have d2 : cmp 3 0 b 0 a = b := cmp_none hb (by decide)
  have d3 : cmp 3 0 a 0 a = a := cmp_none ha (by decide)
  clear e1 e2 e3
  go_enter Try.func6, Try.ntmps6
  go_wp2_with (first | (go_at_call 18; with_reducible refine Calls.mono (refRight_b _ _ _ _ _ ‹_› ‹_› ‹_› ‹_›) ?_; rintro e w' ⟨rfl, hb⟩; have hB := via (w := w) (by go_grown) hb; have hP : Has4 w' w.heap.size (.int .u8 r) (.int .u8 g) (.int .u8 b) (.int .u8 a) := (Has4.new rfl _ _ _ _ _).below hb; obtain ⟨p0, p1, p2, p3, pf⟩ := id hP; clear hb))
  have hS : Sz w w.heap.size w'.heap.size (.int .u8 r) (.int .u8 g) (.int .u8 b) (.int .u8 a) (.int .u8 0) (.int .u8 0) (.int .u8 0) (.int .u8 0) (w'.alloc (.cells #[.int .u8 0, .int .u8 0, .int .u8 0, .int .u8 0] 23)) := none_of hB hP
  clear p0 p1 p2 p3 pf hP hB
  obtain ⟨n, hn⟩ : ∃ n, n = w'.heap.size := ⟨_, rfl⟩
  obtain ⟨w2, hw2⟩ : ∃ w2, w2 = (w'.alloc (.cells #[.int .u8 0, .int .u8 0, .int .u8 0, .int .u8 0] 23)) := ⟨_, rfl⟩
  rw [← hn, ← hw2] at hS
  rw [← hn, ← hw2]
  clear hn hw2
  go_region_held3 (fun w9 => (w9.cell? ⟨w.heap.size, 0, none⟩ = some (.int .u8 r) ∧ w9.cell? ⟨w.heap.size, 1, none⟩ = some (.int .u8 g) ∧ w9.cell? ⟨w.heap.size, 2, none⟩ = some (.int .u8 b) ∧ w9.cell? ⟨w.heap.size, 3, none⟩ = some (.int .u8 a)) ∧ (w9.cell? ⟨n, 0, none⟩ = some (.int .u8 0) ∧ w9.cell? ⟨n, 1, none⟩ = some (.int .u8 0) ∧ w9.cell? ⟨n, 2, none⟩ = some (.int .u8 0) ∧ w9.cell? ⟨n, 3, none⟩ = some (.int .u8 0)) ∧ Kept w w9) (repeat (first | with_reducible assumption | with_reducible refine sz_drew ?_ | with_reducible refine sz_below ?_ ‹_›)) ((first | (go_at_call 13; with_reducible refine Calls.mono (blend_any _ _ _ _ _ _ _ _ _ _ ‹_› ‹_› ‹_› ‹_› ‹_› ‹_› ‹_› ‹_› ‹_›) ?_; rintro e w1 ⟨rfl, hb⟩) | (go_at_call 11; with_reducible refine Calls.mono (comp_any _ _ _ _ _ _ _ _ _ _ ‹_› ‹_› ‹_› ‹_› ‹_› ‹_› ‹_› ‹_› ‹_›) ?_; rintro e w1 ⟨rfl, hb⟩)))
  go_wp2
  refine wp_region_held_drew (S := (fun w9 => (w9.cell? ⟨w.heap.size, 0, none⟩ = some (.int .u8 r) ∧ w9.cell? ⟨w.heap.size, 1, none⟩ = some (.int .u8 g) ∧ w9.cell? ⟨w.heap.size, 2, none⟩ = some (.int .u8 b) ∧ w9.cell? ⟨w.heap.size, 3, none⟩ = some (.int .u8 a)) ∧ (w9.cell? ⟨n, 0, none⟩ = some (.int .u8 0) ∧ w9.cell? ⟨n, 1, none⟩ = some (.int .u8 0) ∧ w9.cell? ⟨n, 2, none⟩ = some (.int .u8 0) ∧ w9.cell? ⟨n, 3, none⟩ = some (.int .u8 0)) ∧ Kept w w9)) (by kernel_rfl) ?_ (fun hHeld => ?_)
  · (repeat (first | with_reducible assumption | with_reducible refine sz_drew ?_ | with_reducible refine sz_below ?_ ‹_›))
  refine wpAnyH_ready (rs := [0]) (by kernel_rfl) (by simp) ?_
  refine AllReadyH.cons (o := { dst := some 59, op := Op.call { callee := Callee.value (Operand.func 10), args := #[], argTypes := #[] }, type := 4, pos := "law.go:59", after := #[], guard := none }) rfl (fun K hK => ?_) AllReadyH.nil
  go_simp
  (go_at_call 10; with_reducible refine Calls.mono (awake_any _) ?_; rintro e w1 ⟨rfl, hb⟩)
  go_wp2_with fail
  refine hK.out _ _ ?_ (fun hHeld => ?_)
  · (repeat (first | with_reducible assumption | with_reducible refine sz_drew ?_ | with_reducible refine sz_below ?_ ‹_›))
  clear hK K
  try simp only [Act.put, List.setIfInBounds_toArray, List.set_cons_zero, List.set_cons_succ]
  refine wpAnyH_take (i := 1) (oi := { dst := some 60, op := Op.move (Operand.tmp 59), type := 4, pos := "law.go:59", after := #[{ on := 0, ground := Ground.data }, { on := 0, ground := Ground.chain }], guard := none }) (v := ?_) rfl (by kernel_rfl) (by kernel_rfl) (by kernel_rfl) (fun _ _ _ h => h) (Or.inl ⟨by rfl, ?hy⟩) (by assumption) ?_
  case hy => (intro w hSw; (try dsimp only at hSw); go_simp; first | done | with_reducible rfl)
  try simp only [Act.put, List.setIfInBounds_toArray, List.set_cons_zero, List.set_cons_succ]
  refine wpAnyH_take (i := 2) (oi := { dst := some 61, op := Op.move (Operand.tmp 6), type := 3, pos := "law.go:59", after := #[{ on := 1, ground := Ground.guard }], guard := some (1, true) }) (v := ?_) rfl (by kernel_rfl) (by kernel_rfl) (by kernel_rfl) (fun _ _ _ h => h) (Or.inl ⟨by rfl, ?hy⟩) (by assumption) ?_
  case hy => (intro w hSw; (try dsimp only at hSw); go_simp; first | done | with_reducible rfl)
  try simp only [Act.put, List.setIfInBounds_toArray, List.set_cons_zero, List.set_cons_succ]
  refine wpAnyH_take (i := 3) (oi := { dst := some 62, op := Op.load 23 (Operand.tmp 5), type := 23, pos := "law.go:59", after := #[{ on := 1, ground := Ground.guard }], guard := some (1, true) }) (v := ?_) rfl (by kernel_rfl) (by kernel_rfl) (by kernel_rfl) (fun _ _ _ h => h) (Or.inl ⟨by rfl, ?hy⟩) (by assumption) ?_
  case hy => (intro w hSw; (try dsimp only at hSw); go_simp; first | done | with_reducible rfl)
  try simp only [Act.put, List.setIfInBounds_toArray, List.set_cons_zero, List.set_cons_succ]
  refine wpAnyH_take (i := 4) (oi := { dst := some 63, op := Op.load 23 (Operand.tmp 3), type := 23, pos := "law.go:59", after := #[{ on := 1, ground := Ground.guard }], guard := some (1, true) }) (v := ?_) rfl (by kernel_rfl) (by kernel_rfl) (by kernel_rfl) (fun _ _ _ h => h) (Or.inl ⟨by rfl, ?hy⟩) (by assumption) ?_
  case hy => (intro w hSw; (try dsimp only at hSw); go_simp; first | done | with_reducible rfl)
  try simp only [Act.put, List.setIfInBounds_toArray, List.set_cons_zero, List.set_cons_succ]
  refine wpAnyH_take (i := 6) (oi := { dst := some 65, op := Op.load 23 (Operand.tmp 3), type := 23, pos := "law.go:59", after := #[{ on := 1, ground := Ground.guard }], guard := some (1, true) }) (v := ?_) rfl (by kernel_rfl) (by kernel_rfl) (by kernel_rfl) (fun _ _ _ h => h) (Or.inl ⟨by rfl, ?hy⟩) (by assumption) ?_
  case hy => (intro w hSw; (try dsimp only at hSw); go_simp; first | done | with_reducible rfl)
  try simp only [Act.put, List.setIfInBounds_toArray, List.set_cons_zero, List.set_cons_succ]
  refine wpAnyH_ready (rs := [5]) (by kernel_rfl) (by simp) ?_
  refine AllReadyH.cons (o := { dst := some 64, op := Op.call { callee := Callee.value (Operand.func 11), args := #[Operand.tmp 61, Operand.tmp 62, Operand.tmp 63], argTypes := #[3, 23, 23] }, type := 23, pos := "law.go:59", after := #[{ on := 2, ground := Ground.data }, { on := 3, ground := Ground.data }, { on := 4, ground := Ground.data }, { on := 1, ground := Ground.chain }, { on := 1, ground := Ground.guard }], guard := some (1, true) }) rfl (fun K hK => ?_) AllReadyH.nil
  go_simp
  (go_at_call 11; with_reducible refine Calls.mono (comp_any _ _ _ _ _ _ _ _ _ _ ‹_› ‹_› ‹_› ‹_› ‹_› ‹_› ‹_› ‹_› ‹_›) ?_; rintro e w1 ⟨rfl, hb⟩)
  go_wp2_with fail
  refine hK.out _ _ ?_ (fun hHeld => ?_)
  · (repeat (first | with_reducible assumption | with_reducible refine sz_drew ?_ | with_reducible refine sz_below ?_ ‹_›))
  clear hK K
  try simp only [Act.put, List.setIfInBounds_toArray, List.set_cons_zero, List.set_cons_succ]
  refine wpAnyH_take (i := 7) (oi := { dst := some 66, op := Op.binOp BinOp.eql 23 (Operand.tmp 64) (Operand.tmp 65) 23, type := 4, pos := "law.go:59", after := #[{ on := 5, ground := Ground.data }, { on := 6, ground := Ground.data }, { on := 1, ground := Ground.guard }], guard := some (1, true) }) (v := ?_) rfl (by kernel_rfl) (by kernel_rfl) (by kernel_rfl) (fun _ _ _ h => h) (Or.inl ⟨by rfl, ?hy⟩) (by assumption) ?_
  case hy => (intro w hSw; (try dsimp only at hSw); go_simp; first | done | with_reducible rfl)
  try simp only [Act.put, List.setIfInBounds_toArray, List.set_cons_zero, List.set_cons_succ]
  refine wpAnyH_take (i := 8) (oi := { dst := some 67, op := Op.pick (Operand.tmp 60) (Operand.tmp 66) (Operand.const (Value.bool false)), type := 4, pos := "law.go:59", after := #[{ on := 1, ground := Ground.data }, { on := 7, ground := Ground.data }], guard := none }) (v := ?_) rfl (by kernel_rfl) (by kernel_rfl) (by kernel_rfl) (fun _ _ _ h => h) (Or.inl ⟨by rfl, ?hy⟩) (by assumption) ?_
  case hy => (intro w hSw; (try dsimp only at hSw); go_simp; first | done | with_reducible rfl)
  try simp only [Act.put, List.setIfInBounds_toArray, List.set_cons_zero, List.set_cons_succ]
  refine wpAnyH_take (i := 9) (oi := { dst := some 68, op := Op.move (Operand.tmp 67), type := 4, pos := "law.go:59", after := #[{ on := 8, ground := Ground.data }, { on := 5, ground := Ground.chain }], guard := none }) (v := ?_) rfl (by kernel_rfl) (by kernel_rfl) (by kernel_rfl) (fun _ _ _ h => h) (Or.inl ⟨by rfl, ?hy⟩) (by assumption) ?_
  case hy => (intro w hSw; (try dsimp only at hSw); go_simp; first | done | with_reducible rfl)
  try simp only [Act.put, List.setIfInBounds_toArray, List.set_cons_zero, List.set_cons_succ]
  refine wpAnyH_take (i := 10) (oi := { dst := some 69, op := Op.move (Operand.tmp 6), type := 3, pos := "law.go:59", after := #[{ on := 9, ground := Ground.guard }], guard := some (9, true) }) (v := ?_) rfl (by kernel_rfl) (by kernel_rfl) (by kernel_rfl) (fun _ _ _ h => h) (Or.inl ⟨by rfl, ?hy⟩) (by assumption) ?_
  case hy => (intro w hSw; (try dsimp only at hSw); go_simp; first | done | with_reducible rfl)
  try simp only [Act.put, List.setIfInBounds_toArray, List.set_cons_zero, List.set_cons_succ]
  refine wpAnyH_take (i := 11) (oi := { dst := some 70, op := Op.binOp BinOp.eql 3 (Operand.tmp 69) (Operand.const (Value.int IntKind.i64 3)) 3, type := 4, pos := "law.go:59", after := #[{ on := 10, ground := Ground.data }, { on := 9, ground := Ground.guard }], guard := some (9, true) }) (v := ?_) rfl (by kernel_rfl) (by kernel_rfl) (by kernel_rfl) (fun _ _ _ h => h) (Or.inl ⟨by rfl, ?hy⟩) (by assumption) ?_
  case hy => (intro w hSw; (try dsimp only at hSw); go_simp; first | done | with_reducible rfl)
  try simp only [Act.put, List.setIfInBounds_toArray, List.set_cons_zero, List.set_cons_succ]
  refine wpAnyH_take (i := 12) (oi := { dst := some 71, op := Op.move (Operand.tmp 70), type := 4, pos := "law.go:59", after := #[{ on := 11, ground := Ground.data }, { on := 9, ground := Ground.chain }, { on := 9, ground := Ground.guard }], guard := some (9, true) }) (v := ?_) rfl (by kernel_rfl) (by kernel_rfl) (by kernel_rfl) (fun _ _ _ h => h) (Or.inl ⟨by rfl, ?hy⟩) (by assumption) ?_
  case hy => (intro w hSw; (try dsimp only at hSw); go_simp; first | done | with_reducible rfl)
  try simp only [Act.put, List.setIfInBounds_toArray, List.set_cons_zero, List.set_cons_succ]
  refine wpAnyH_take (i := 13) (oi := { dst := some 72, op := Op.move (Operand.tmp 6), type := 3, pos := "law.go:59", after := #[{ on := 12, ground := Ground.guard }], guard := some (12, false) }) (v := undef) rfl (by kernel_rfl) (by kernel_rfl) (by kernel_rfl) (fun _ _ _ h => h) (Or.inr ⟨by rfl, rfl⟩) (by assumption) ?_
  try simp only [Act.put, List.setIfInBounds_toArray, List.set_cons_zero, List.set_cons_succ]
  refine wpAnyH_take (i := 14) (oi := { dst := some 73, op := Op.load 23 (Operand.tmp 3), type := 23, pos := "law.go:59", after := #[{ on := 12, ground := Ground.guard }], guard := some (12, false) }) (v := undef) rfl (by kernel_rfl) (by kernel_rfl) (by kernel_rfl) (fun _ _ _ h => h) (Or.inr ⟨by rfl, rfl⟩) (by assumption) ?_
  try simp only [Act.put, List.setIfInBounds_toArray, List.set_cons_zero, List.set_cons_succ]
  refine wpAnyH_take (i := 15) (oi := { dst := some 74, op := Op.load 23 (Operand.tmp 5), type := 23, pos := "law.go:59", after := #[{ on := 12, ground := Ground.guard }], guard := some (12, false) }) (v := undef) rfl (by kernel_rfl) (by kernel_rfl) (by kernel_rfl) (fun _ _ _ h => h) (Or.inr ⟨by rfl, rfl⟩) (by assumption) ?_
  try simp only [Act.put, List.setIfInBounds_toArray, List.set_cons_zero, List.set_cons_succ]
  refine wpAnyH_take (i := 16) (oi := { dst := some 75, op := Op.call { callee := Callee.value (Operand.func 11), args := #[Operand.tmp 72, Operand.tmp 73, Operand.tmp 74], argTypes := #[3, 23, 23] }, type := 23, pos := "law.go:59", after := #[{ on := 13, ground := Ground.data }, { on := 14, ground := Ground.data }, { on := 15, ground := Ground.data }, { on := 12, ground := Ground.chain }, { on := 12, ground := Ground.guard }], guard := some (12, false) }) (v := undef) rfl (by kernel_rfl) (by kernel_rfl) (by kernel_rfl) (fun _ _ _ h => h) (Or.inr ⟨by rfl, rfl⟩) (by assumption) ?_
  try simp only [Act.put, List.setIfInBounds_toArray, List.set_cons_zero, List.set_cons_succ]
  refine wpAnyH_take (i := 17) (oi := { dst := some 76, op := Op.load 23 (Operand.tmp 3), type := 23, pos := "law.go:59", after := #[{ on := 12, ground := Ground.guard }], guard := some (12, false) }) (v := undef) rfl (by kernel_rfl) (by kernel_rfl) (by kernel_rfl) (fun _ _ _ h => h) (Or.inr ⟨by rfl, rfl⟩) (by assumption) ?_
  try simp only [Act.put, List.setIfInBounds_toArray, List.set_cons_zero, List.set_cons_succ]
  refine wpAnyH_take (i := 18) (oi := { dst := some 77, op := Op.binOp BinOp.eql 23 (Operand.tmp 75) (Operand.tmp 76) 23, type := 4, pos := "law.go:59", after := #[{ on := 16, ground := Ground.data }, { on := 17, ground := Ground.data }, { on := 12, ground := Ground.guard }], guard := some (12, false) }) (v := undef) rfl (by kernel_rfl) (by kernel_rfl) (by kernel_rfl) (fun _ _ _ h => h) (Or.inr ⟨by rfl, rfl⟩) (by assumption) ?_
  try simp only [Act.put, List.setIfInBounds_toArray, List.set_cons_zero, List.set_cons_succ]
  refine wpAnyH_take (i := 19) (oi := { dst := some 78, op := Op.pick (Operand.tmp 71) (Operand.const (Value.bool true)) (Operand.tmp 77), type := 4, pos := "law.go:59", after := #[{ on := 12, ground := Ground.data }, { on := 18, ground := Ground.data }, { on := 9, ground := Ground.guard }], guard := some (9, true) }) (v := ?_) rfl (by kernel_rfl) (by kernel_rfl) (by kernel_rfl) (fun _ _ _ h => h) (Or.inl ⟨by rfl, ?hy⟩) (by assumption) ?_
  case hy => (intro w hSw; (try dsimp only at hSw); go_simp; first | done | with_reducible rfl)
  try simp only [Act.put, List.setIfInBounds_toArray, List.set_cons_zero, List.set_cons_succ]
  refine wpAnyH_take (i := 20) (oi := { dst := some 79, op := Op.pick (Operand.tmp 68) (Operand.tmp 78) (Operand.const (Value.bool false)), type := 4, pos := "law.go:59", after := #[{ on := 9, ground := Ground.data }, { on := 19, ground := Ground.data }], guard := none }) (v := ?_) rfl (by kernel_rfl) (by kernel_rfl) (by kernel_rfl) (fun _ _ _ h => h) (Or.inl ⟨by rfl, ?hy⟩) (by assumption) ?_
  case hy => (intro w hSw; (try dsimp only at hSw); go_simp; first | done | with_reducible rfl)
  try simp only [Act.put, List.setIfInBounds_toArray, List.set_cons_zero, List.set_cons_succ]
  refine wpAnyH_take (i := 21) (oi := { dst := some 4, op := Op.assign (Operand.tmp 79), type := 4, pos := "law.go:59", after := #[{ on := 20, ground := Ground.data }, { on := 16, ground := Ground.chain }, { on := 0, ground := Ground.phase }, { on := 1, ground := Ground.phase }, { on := 2, ground := Ground.phase }, { on := 3, ground := Ground.phase }, { on := 4, ground := Ground.phase }, { on := 5, ground := Ground.phase }, { on := 6, ground := Ground.phase }, { on := 7, ground := Ground.phase }, { on := 8, ground := Ground.phase }, { on := 9, ground := Ground.phase }, { on := 10, ground := Ground.phase }, { on := 11, ground := Ground.phase }, { on := 12, ground := Ground.phase }, { on := 13, ground := Ground.phase }, { on := 14, ground := Ground.phase }, { on := 15, ground := Ground.phase }, { on := 16, ground := Ground.phase }, { on := 17, ground := Ground.phase }, { on := 18, ground := Ground.phase }, { on := 19, ground := Ground.phase }, { on := 20, ground := Ground.phase }], guard := none }) (v := ?_) rfl (by kernel_rfl) (by kernel_rfl) (by kernel_rfl) (fun _ _ _ h => h) (Or.inl ⟨by rfl, ?hy⟩) (by assumption) ?_
  case hy => (intro w hSw; (try dsimp only at hSw); go_simp; first | done | with_reducible rfl)
  try simp only [Act.put, List.setIfInBounds_toArray, List.set_cons_zero, List.set_cons_succ]
  refine wpAnyH_done (by kernel_rfl) ?_ _
  go_wp2
  go_ret
  exact ⟨rfl, sz_out (p := w.heap.size) (q := n) (v0 := .int .u8 r) (v1 := .int .u8 g) (v2 := .int .u8 b) (v3 := .int .u8 a) (u0 := .int .u8 0) (u1 := .int .u8 0) (u2 := .int .u8 0) (u3 := .int .u8 0) (by (repeat (first | with_reducible assumption | with_reducible refine sz_drew ?_ | with_reducible refine sz_below ?_ ‹_›)))⟩

set_option maxHeartbeats 2000000 in
theorem walk4 (k r g b a : Int) (w : World) (hk : 0 ≤ k ∧ k ≤ 255) (hr : 0 ≤ r ∧ r ≤ 255) (hg : 0 ≤ g ∧ g ≤ 255) (hb : 0 ≤ b ∧ b ≤ 255) (ha : 0 ≤ a ∧ a ≤ 255) (hR : rightB r g b a = true) (h6 : k % 6 = 4) :
    Calls Try.prog 6 #[.int .u8 k, .agg #[.int .u8 r, .int .u8 g, .int .u8 b, .int .u8 a]] w fun e w' => e = .returned (.bool true) ∧ Below w.heap.size w w' := by
  have hE := eqPx
  obtain ⟨e1, e2, e3⟩ := righty hR
  have ho := rem7 hk
  have hz : (0:Int) ≤ 0 ∧ (0:Int) ≤ 255 := by decide
  have h5 : (0:Int) ≤ 5 ∧ (5:Int) ≤ 5 := by decide
  have hop : (0:Int) ≤ 4 ∧ (4:Int) ≤ 5 := by decide
  have n0 : bl (k % 7) 0 r 0 a = r := bl_none ⟨hr.1, e1⟩ ha.2 ho
  have o0 : bl (k % 7) r 0 a 0 = r := bl_onto ⟨hr.1, e1⟩ ha.2 ho
  have n1 : bl (k % 7) 0 g 0 a = g := bl_none ⟨hg.1, e2⟩ ha.2 ho
  have o1 : bl (k % 7) g 0 a 0 = g := bl_onto ⟨hg.1, e2⟩ ha.2 ho
  have n2 : bl (k % 7) 0 b 0 a = b := bl_none ⟨hb.1, e3⟩ ha.2 ho
  have o2 : bl (k % 7) b 0 a 0 = b := bl_onto ⟨hb.1, e3⟩ ha.2 ho
  have n3 : ba (k % 7) 0 a = a := ba_none ha
  have o3 : ba (k % 7) a 0 = a := ba_onto ha
  have c0 : cmp 5 r r a a = 0 := cmp_clear _ _ _ _
  have c1 : cmp 5 g g a a = 0 := cmp_clear _ _ _ _
  have c2 : cmp 5 b b a a = 0 := cmp_clear _ _ _ _
  have c3 : cmp 5 a a a a = 0 := cmp_clear _ _ _ _
  have d0 : cmp 4 0 r 0 a = r := cmp_none hr (by decide)
  have d1 : cmp 4 0 g 0 a = g := cmp_none hg (by decide)
  have d2 : cmp 4 0 b 0 a = b := cmp_none hb (by decide)
  have d3 : cmp 4 0 a 0 a = a := cmp_none ha (by decide)
  have f0 : cmp 4 r 0 a 0 = r := cmp_onto hr (by decide)
  have f1 : cmp 4 g 0 a 0 = g := cmp_onto hg (by decide)
  have f2 : cmp 4 b 0 a 0 = b := cmp_onto hb (by decide)
  have f3 : cmp 4 a 0 a 0 = a := cmp_onto ha (by decide)
  clear e1 e2 e3
  go_enter Try.func6, Try.ntmps6
  go_wp2_with (first | (go_at_call 18; with_reducible refine Calls.mono (refRight_b _ _ _ _ _ ‹_› ‹_› ‹_› ‹_›) ?_; rintro e w' ⟨rfl, hb⟩; have hB := via (w := w) (by go_grown) hb; have hP : Has4 w' w.heap.size (.int .u8 r) (.int .u8 g) (.int .u8 b) (.int .u8 a) := (Has4.new rfl _ _ _ _ _).below hb; obtain ⟨p0, p1, p2, p3, pf⟩ := id hP; clear hb))
  have hS : Sz w w.heap.size w'.heap.size (.int .u8 r) (.int .u8 g) (.int .u8 b) (.int .u8 a) (.int .u8 0) (.int .u8 0) (.int .u8 0) (.int .u8 0) (w'.alloc (.cells #[.int .u8 0, .int .u8 0, .int .u8 0, .int .u8 0] 23)) := none_of hB hP
  clear p0 p1 p2 p3 pf hP hB
  obtain ⟨n, hn⟩ : ∃ n, n = w'.heap.size := ⟨_, rfl⟩
  obtain ⟨w2, hw2⟩ : ∃ w2, w2 = (w'.alloc (.cells #[.int .u8 0, .int .u8 0, .int .u8 0, .int .u8 0] 23)) := ⟨_, rfl⟩
  rw [← hn, ← hw2] at hS
  rw [← hn, ← hw2]
  clear hn hw2
  go_region_held3 (fun w9 => (w9.cell? ⟨w.heap.size, 0, none⟩ = some (.int .u8 r) ∧ w9.cell? ⟨w.heap.size, 1, none⟩ = some (.int .u8 g) ∧ w9.cell? ⟨w.heap.size, 2, none⟩ = some (.int .u8 b) ∧ w9.cell? ⟨w.heap.size, 3, none⟩ = some (.int .u8 a)) ∧ (w9.cell? ⟨n, 0, none⟩ = some (.int .u8 0) ∧ w9.cell? ⟨n, 1, none⟩ = some (.int .u8 0) ∧ w9.cell? ⟨n, 2, none⟩ = some (.int .u8 0) ∧ w9.cell? ⟨n, 3, none⟩ = some (.int .u8 0)) ∧ Kept w w9) (repeat (first | with_reducible assumption | with_reducible refine sz_drew ?_ | with_reducible refine sz_below ?_ ‹_›)) ((first | (go_at_call 13; with_reducible refine Calls.mono (blend_any _ _ _ _ _ _ _ _ _ _ ‹_› ‹_› ‹_› ‹_› ‹_› ‹_› ‹_› ‹_› ‹_›) ?_; rintro e w1 ⟨rfl, hb⟩) | (go_at_call 11; with_reducible refine Calls.mono (comp_any _ _ _ _ _ _ _ _ _ _ ‹_› ‹_› ‹_› ‹_› ‹_› ‹_› ‹_› ‹_› ‹_›) ?_; rintro e w1 ⟨rfl, hb⟩)))
  go_wp2
  go_region_held3 (fun w9 => (w9.cell? ⟨w.heap.size, 0, none⟩ = some (.int .u8 r) ∧ w9.cell? ⟨w.heap.size, 1, none⟩ = some (.int .u8 g) ∧ w9.cell? ⟨w.heap.size, 2, none⟩ = some (.int .u8 b) ∧ w9.cell? ⟨w.heap.size, 3, none⟩ = some (.int .u8 a)) ∧ (w9.cell? ⟨n, 0, none⟩ = some (.int .u8 0) ∧ w9.cell? ⟨n, 1, none⟩ = some (.int .u8 0) ∧ w9.cell? ⟨n, 2, none⟩ = some (.int .u8 0) ∧ w9.cell? ⟨n, 3, none⟩ = some (.int .u8 0)) ∧ Kept w w9) (repeat (first | with_reducible assumption | with_reducible refine sz_drew ?_ | with_reducible refine sz_below ?_ ‹_›)) ((first | (go_at_call 10; with_reducible refine Calls.mono (awake_any _) ?_; rintro e w1 ⟨rfl, hb⟩) | (go_at_call 11; with_reducible refine Calls.mono (comp_any _ _ _ _ _ _ _ _ _ _ ‹_› ‹_› ‹_› ‹_› ‹_› ‹_› ‹_› ‹_› ‹_›) ?_; rintro e w1 ⟨rfl, hb⟩)))
  go_wp2
  go_ret
  exact ⟨rfl, sz_out (p := w.heap.size) (q := n) (v0 := .int .u8 r) (v1 := .int .u8 g) (v2 := .int .u8 b) (v3 := .int .u8 a) (u0 := .int .u8 0) (u1 := .int .u8 0) (u2 := .int .u8 0) (u3 := .int .u8 0) (by (repeat (first | with_reducible assumption | with_reducible refine sz_drew ?_ | with_reducible refine sz_below ?_ ‹_›)))⟩

set_option maxHeartbeats 2000000 in
theorem walk5 (k r g b a : Int) (w : World) (hk : 0 ≤ k ∧ k ≤ 255) (hr : 0 ≤ r ∧ r ≤ 255) (hg : 0 ≤ g ∧ g ≤ 255) (hb : 0 ≤ b ∧ b ≤ 255) (ha : 0 ≤ a ∧ a ≤ 255) (hR : rightB r g b a = true) (h6 : k % 6 = 5) :
    Calls Try.prog 6 #[.int .u8 k, .agg #[.int .u8 r, .int .u8 g, .int .u8 b, .int .u8 a]] w fun e w' => e = .returned (.bool true) ∧ Below w.heap.size w w' := by
  have hE := eqPx
  obtain ⟨e1, e2, e3⟩ := righty hR
  have ho := rem7 hk
  have hz : (0:Int) ≤ 0 ∧ (0:Int) ≤ 255 := by decide
  have h5 : (0:Int) ≤ 5 ∧ (5:Int) ≤ 5 := by decide
  have n0 : bl (k % 7) 0 r 0 a = r := bl_none ⟨hr.1, e1⟩ ha.2 ho
  have o0 : bl (k % 7) r 0 a 0 = r := bl_onto ⟨hr.1, e1⟩ ha.2 ho
  have n1 : bl (k % 7) 0 g 0 a = g := bl_none ⟨hg.1, e2⟩ ha.2 ho
  have o1 : bl (k % 7) g 0 a 0 = g := bl_onto ⟨hg.1, e2⟩ ha.2 ho
  have n2 : bl (k % 7) 0 b 0 a = b := bl_none ⟨hb.1, e3⟩ ha.2 ho
  have o2 : bl (k % 7) b 0 a 0 = b := bl_onto ⟨hb.1, e3⟩ ha.2 ho
  have n3 : ba (k % 7) 0 a = a := ba_none ha
  have o3 : ba (k % 7) a 0 = a := ba_onto ha
  have c0 : cmp 5 r r a a = 0 := cmp_clear _ _ _ _
  have c1 : cmp 5 g g a a = 0 := cmp_clear _ _ _ _
  have c2 : cmp 5 b b a a = 0 := cmp_clear _ _ _ _
  have c3 : cmp 5 a a a a = 0 := cmp_clear _ _ _ _
  have d0 : cmp 5 0 r 0 a = 0 := cmp_none' (by decide)
  have d1 : cmp 5 0 g 0 a = 0 := cmp_none' (by decide)
  have d2 : cmp 5 0 b 0 a = 0 := cmp_none' (by decide)
  have d3 : cmp 5 0 a 0 a = 0 := cmp_none' (by decide)
  clear e1 e2 e3
  go_enter Try.func6, Try.ntmps6
  go_wp2_with (first | (go_at_call 18; with_reducible refine Calls.mono (refRight_b _ _ _ _ _ ‹_› ‹_› ‹_› ‹_›) ?_; rintro e w' ⟨rfl, hb⟩; have hB := via (w := w) (by go_grown) hb; have hP : Has4 w' w.heap.size (.int .u8 r) (.int .u8 g) (.int .u8 b) (.int .u8 a) := (Has4.new rfl _ _ _ _ _).below hb; obtain ⟨p0, p1, p2, p3, pf⟩ := id hP; clear hb))
  have hS : Sz w w.heap.size w'.heap.size (.int .u8 r) (.int .u8 g) (.int .u8 b) (.int .u8 a) (.int .u8 0) (.int .u8 0) (.int .u8 0) (.int .u8 0) (w'.alloc (.cells #[.int .u8 0, .int .u8 0, .int .u8 0, .int .u8 0] 23)) := none_of hB hP
  clear p0 p1 p2 p3 pf hP hB
  obtain ⟨n, hn⟩ : ∃ n, n = w'.heap.size := ⟨_, rfl⟩
  obtain ⟨w2, hw2⟩ : ∃ w2, w2 = (w'.alloc (.cells #[.int .u8 0, .int .u8 0, .int .u8 0, .int .u8 0] 23)) := ⟨_, rfl⟩
  rw [← hn, ← hw2] at hS
  rw [← hn, ← hw2]
  clear hn hw2
  go_region_held3 (fun w9 => (w9.cell? ⟨w.heap.size, 0, none⟩ = some (.int .u8 r) ∧ w9.cell? ⟨w.heap.size, 1, none⟩ = some (.int .u8 g) ∧ w9.cell? ⟨w.heap.size, 2, none⟩ = some (.int .u8 b) ∧ w9.cell? ⟨w.heap.size, 3, none⟩ = some (.int .u8 a)) ∧ (w9.cell? ⟨n, 0, none⟩ = some (.int .u8 0) ∧ w9.cell? ⟨n, 1, none⟩ = some (.int .u8 0) ∧ w9.cell? ⟨n, 2, none⟩ = some (.int .u8 0) ∧ w9.cell? ⟨n, 3, none⟩ = some (.int .u8 0)) ∧ Kept w w9) (repeat (first | with_reducible assumption | with_reducible refine sz_drew ?_ | with_reducible refine sz_below ?_ ‹_›)) ((first | (go_at_call 13; with_reducible refine Calls.mono (blend_any _ _ _ _ _ _ _ _ _ _ ‹_› ‹_› ‹_› ‹_› ‹_› ‹_› ‹_› ‹_› ‹_›) ?_; rintro e w1 ⟨rfl, hb⟩) | (go_at_call 11; with_reducible refine Calls.mono (comp_any _ _ _ _ _ _ _ _ _ _ ‹_› ‹_› ‹_› ‹_› ‹_› ‹_› ‹_› ‹_› ‹_›) ?_; rintro e w1 ⟨rfl, hb⟩)))
  go_wp2
  go_region_held3 (fun w9 => (w9.cell? ⟨w.heap.size, 0, none⟩ = some (.int .u8 r) ∧ w9.cell? ⟨w.heap.size, 1, none⟩ = some (.int .u8 g) ∧ w9.cell? ⟨w.heap.size, 2, none⟩ = some (.int .u8 b) ∧ w9.cell? ⟨w.heap.size, 3, none⟩ = some (.int .u8 a)) ∧ (w9.cell? ⟨n, 0, none⟩ = some (.int .u8 0) ∧ w9.cell? ⟨n, 1, none⟩ = some (.int .u8 0) ∧ w9.cell? ⟨n, 2, none⟩ = some (.int .u8 0) ∧ w9.cell? ⟨n, 3, none⟩ = some (.int .u8 0)) ∧ Kept w w9) (repeat (first | with_reducible assumption | with_reducible refine sz_drew ?_ | with_reducible refine sz_below ?_ ‹_›)) ((first | (go_at_call 10; with_reducible refine Calls.mono (awake_any _) ?_; rintro e w1 ⟨rfl, hb⟩) | (go_at_call 11; with_reducible refine Calls.mono (comp_any _ _ _ _ _ _ _ _ _ _ ‹_› ‹_› ‹_› ‹_› ‹_› ‹_› ‹_› ‹_› ‹_›) ?_; rintro e w1 ⟨rfl, hb⟩)))
  go_wp2
  go_ret
  exact ⟨rfl, sz_out (p := w.heap.size) (q := n) (v0 := .int .u8 r) (v1 := .int .u8 g) (v2 := .int .u8 b) (v3 := .int .u8 a) (u0 := .int .u8 0) (u1 := .int .u8 0) (u2 := .int .u8 0) (u3 := .int .u8 0) (by (repeat (first | with_reducible assumption | with_reducible refine sz_drew ?_ | with_reducible refine sz_below ?_ ‹_›)))⟩

set_option maxHeartbeats 2000000 in
theorem walk (k r g b a : Int) (w : World) (hk : 0 ≤ k ∧ k ≤ 255) (hr : 0 ≤ r ∧ r ≤ 255) (hg : 0 ≤ g ∧ g ≤ 255) (hb : 0 ≤ b ∧ b ≤ 255) (ha : 0 ≤ a ∧ a ≤ 255) :
    Calls Try.prog 6 #[.int .u8 k, .agg #[.int .u8 r, .int .u8 g, .int .u8 b, .int .u8 a]] w fun e w' => e = .returned (.bool true) ∧ Below w.heap.size w w' := by
  have hE := eqPx
  rcases hR : rightB r g b a with _ | _
  · skip
    go_enter Try.func6, Try.ntmps6
    go_wp2_with (first | (go_at_call 18; with_reducible refine Calls.mono (refRight_b _ _ _ _ _ ‹_› ‹_› ‹_› ‹_›) ?_; rintro e w' ⟨rfl, hb⟩; have hB := via (w := w) (by go_grown) hb; clear hb) | (go_at_call 10; with_reducible refine Calls.mono (awake_any _) ?_; rintro e w' ⟨rfl, hb⟩; replace hB := via (w := w) hB hb))
    go_ret
    exact ⟨rfl, hB⟩
  clear hE
  rcases six (rem6 hk) with h6 | h6 | h6 | h6 | h6 | h6
  · exact walk0 k r g b a w hk hr hg hb ha hR h6
  · exact walk1 k r g b a w hk hr hg hb ha hR h6
  · exact walk2 k r g b a w hk hr hg hb ha hR h6
  · exact walk3 k r g b a w hk hr hg hb ha hR h6
  · exact walk4 k r g b a w hk hr hg hb ha hR h6
  · exact walk5 k r g b a w hk hr hg hb ha hR h6

theorem own : ownKnob Try.prog.godebug = none := by kernel_rfl
theorem cells5 : Try.prog.cellsOf 5 = 1 := by kernel_rfl
theorem cells23 : Try.prog.cellsOf 23 = 4 := by kernel_rfl

set_option maxHeartbeats 400000 in
set_option maxRecDepth 100000 in
theorem lifted (os : Os) (started : os.Started) (H : Type) (enc : TypeId × Value → H) :
    ReturnsInHanded {} Try.checked os 6 .any (Rows.mixNothingSpec.pre6 enc Try.prog Try.f6 Rows.mixNothingRow.domain false) (Rows.mixNothingSpec.post enc Try.prog Try.f6 false true false false) := by
  refine returnsInHanded_of_change (C := Try.checked) own started (by kernel_rfl) Try.func6
    (ChangeSpec.witness6 (enc := enc) (C := Try.checked) false ⟨#[], #[.int .u8 0, .agg #[.int .u8 0, .int .u8 0, .int .u8 0, .int .u8 0]], []⟩ 8 (by kernel_rfl) (by kernel_rfl) (by kernel_rfl) (by kernel_rfl)) ?_
  intro W base args ds gs before hval0 hW hcnd _
  have hval : ∀ (j : Nat) t v, Try.f6.params[j]? = some t → args[j]? = some v → Value.okWide Try.prog W .any base t v := hval0
  have hW' := hW
  obtain ⟨p, q, hA0, hV, rfl, hfz, hnd⟩ := hW
  have hA : DataW.TrodAll enc Try.prog W 0 (fun _ => true) true Try.f6.params.toList args.toList ds p := hA0
  rw [Try.params6] at hA hval
  obtain ⟨v0, vs0, d0, ds0, p0, q0, hargs, rfl, rfl, h0, r0⟩ := trodAll_cons hA
  obtain ⟨v1, vs1, d1, ds1, p1, q1, rfl, rfl, rfl, h1, r1⟩ := trodAll_cons r0
  obtain ⟨rfl, rfl, rfl⟩ := trodAll_nil r1
  obtain rfl : args = #[v0, v1] := by cases args; simp_all
  obtain ⟨rfl, rfl⟩ := trodVars_none hV
  obtain ⟨k0, rfl, rfl, rfl, u0⟩ := open_int Try.underlying5 (hval 0 5 v0 rfl rfl) h0
  obtain ⟨x10, x11, x12, x13, rfl, rfl, rfl, u10, u11, u12, u13⟩ := open_px Try.underlying23 Try.underlying5 cells23 cells5 (hval 1 23 v1 rfl rfl) h1
  clear hA0 hval0
  simp only [List.append_nil] at hW'
  refine (walk k0 x10 x11 x12 x13 W (bounds_u8 u0) (bounds_u8 u10) (bounds_u8 u11) (bounds_u8 u12) (bounds_u8 u13)).mono fun e W' ⟨he, hg⟩ => ?_
  subst he
  exact ⟨_, rfl, ⟨_, _, _, [], [], [], hW', (trodAll_cons_mk (shut_bool Try.underlying4 _) trodAll_mk0), (trodAll_cons_mk (shut_int Try.underlying5 u0) (trodAll_cons_mk (shut_px Try.underlying23 Try.underlying5 cells23 cells5 u10 u11 u12 u13) trodAll_mk0)), rfl, hg.frame _, fun h => by cases h⟩⟩

theorem over : Rows.mixNothingRow.holds Try.pinned (OpenSpec.ofChange Rows.mixNothingSpec) :=
  OpenClaim.holds_of_wide 6 Try.f6 rfl rfl rfl rfl rfl rfl rfl ⟨rfl, rfl, rfl, rfl, rfl⟩ rfl rfl rfl rfl rfl (by kernel_rfl) Try.func6 (by kernel_rfl)
    (of_decide_eq_true (by kernel_rfl)) (by unfold Func.isWrapper; first | (rw [if_pos (by decide +kernel)]; kernel_rfl) | (rw [if_neg (by decide +kernel)]; exact ⟨rfl, rfl⟩))
    (fun os started H enc _ => lifted os started H enc)

theorem proved : Rows.MixNothingSaid := over
#print axioms proved
end Go.Proofs.Ytcihemjnanobgaa.mixNothing
