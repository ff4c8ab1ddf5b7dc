/- The document's nearest number, and one pixel more: contracts. -/
import Derived.Test.YtfkbdpbgeglgaaaGrows
namespace Go.Proofs.Ytfkbdpbgeglgaaa
open Num Go.RowKit
set_option linter.unusedVariables false
set_option linter.unusedSimpArgs false
attribute [local go_sem ↓] run_app
attribute [local go_sem] lenV_slice

/-- a buffer is answered, of so many pixels; what was ahead of lo stays -/
def RetA (lo om og : Nat) (w w' : World) (e : Ending) (B : R) (n : Nat) (l : List X) : Prop := ∃ oo' om' og' ooff', e = .returned (.agg #[.int .i64 B.x0, .int .i64 B.y0, .int .i64 B.x1, .int .i64 B.y1, .slice oo' n om']) ∧ Ox lo w' oo' n om' og' ooff' l ∧ Below lo w w' ∧ ∀ k, k < w.heap.size → (0 < om → k ≠ og) → w'.heap[k]? = w.heap[k]?
theorem retA {lo om og : Nat} {w w' : World} {e : Ending} {B : R} {n : Nat} {l : List X} (h : RetA lo om og w w' e B n l) : ∃ oo' om' og' ooff', e = .returned (.agg #[.int .i64 B.x0, .int .i64 B.y0, .int .i64 B.x1, .int .i64 B.y1, .slice oo' n om']) ∧ Ox lo w' oo' n om' og' ooff' l ∧ Below lo w w' ∧ ∀ k, k < w.heap.size → (0 < om → k ≠ og) → w'.heap[k]? = w.heap[k]? := h

set_option maxRecDepth 100000 in
set_option maxHeartbeats 1000000 in
theorem with_any (lo : Nat) (B : R) (oo : Option Addr) (on om og ooff : Nat) (l : List X) (p : X) (w : World) (h : Ox lo w oo on om og ooff l) (hlo : lo ≤ w.heap.size) (hn : on ≤ 1000000) :
    Calls Try.prog 27 #[.agg #[.int .i64 B.x0, .int .i64 B.y0, .int .i64 B.x1, .int .i64 B.y1, .slice oo on om], pxV p] w fun e w' => RetA lo om og w w' e B (on + 1) (l ++ [p]) := by
  have hsz : (((w.alloc (.cells #[.int .i64 B.x0, .int .i64 B.y0, .int .i64 B.x1, .int .i64 B.y1, .slice oo on om] 26)).alloc (.cells #[.int .u8 p.c0, .int .u8 p.c1, .int .u8 p.c2, .int .u8 p.c3] 33)).alloc (.cells #[.int .i64 0, .int .i64 0, .int .i64 0, .int .i64 0, .slice none 0 0] 26)).heap.size = w.heap.size + 1 + 1 + 1 := by simp
  have hb3 : Below w.heap.size w (((w.alloc (.cells #[.int .i64 B.x0, .int .i64 B.y0, .int .i64 B.x1, .int .i64 B.y1, .slice oo on om] 26)).alloc (.cells #[.int .u8 p.c0, .int .u8 p.c1, .int .u8 p.c2, .int .u8 p.c3] 33)).alloc (.cells #[.int .i64 0, .int .i64 0, .int .i64 0, .int .i64 0, .slice none 0 0] 26)) := (((Below.refl _ _).alloc (Nat.le_refl _) _).alloc (by simp) _).alloc (by simp; omega) _
  obtain ⟨b', off', hA⟩ := app_px (w := (((w.alloc (.cells #[.int .i64 B.x0, .int .i64 B.y0, .int .i64 B.x1, .int .i64 B.y1, .slice oo on om] 26)).alloc (.cells #[.int .u8 p.c0, .int .u8 p.c1, .int .u8 p.c2, .int .u8 p.c3] 33)).alloc (.cells #[.int .i64 0, .int .i64 0, .int .i64 0, .int .i64 0, .slice none 0 0] 26))) (h.below hb3) (by rw [hsz]; omega) hn p
  rw [hsz] at hA
  have h5 : Has5 ((((w.alloc (.cells #[.int .i64 B.x0, .int .i64 B.y0, .int .i64 B.x1, .int .i64 B.y1, .slice oo on om] 26)).alloc (.cells #[.int .u8 p.c0, .int .u8 p.c1, .int .u8 p.c2, .int .u8 p.c3] 33)).alloc (.cells #[.int .i64 0, .int .i64 0, .int .i64 0, .int .i64 0, .slice none 0 0] 26)).alloc (.cells #[.int .u8 p.c0, .int .u8 p.c1, .int .u8 p.c2, .int .u8 p.c3] 33)) w.heap.size B oo on om := (((Has5.new rfl _ _ _ _ _ _ _ _).alloc _).alloc _).alloc _
  have hp : Rc.Has4 (((w.alloc (.cells #[.int .i64 B.x0, .int .i64 B.y0, .int .i64 B.x1, .int .i64 B.y1, .slice oo on om] 26)).alloc (.cells #[.int .u8 p.c0, .int .u8 p.c1, .int .u8 p.c2, .int .u8 p.c3] 33)).alloc (.cells #[.int .i64 0, .int .i64 0, .int .i64 0, .int .i64 0, .slice none 0 0] 26)) (w.heap.size + 1) (.int .u8 p.c0) (.int .u8 p.c1) (.int .u8 p.c2) (.int .u8 p.c3) := (Rc.Has4.new (by simp) _ _ _ _ _).alloc _
  have h0 : Has5 ((((w.alloc (.cells #[.int .i64 B.x0, .int .i64 B.y0, .int .i64 B.x1, .int .i64 B.y1, .slice oo on om] 26)).alloc (.cells #[.int .u8 p.c0, .int .u8 p.c1, .int .u8 p.c2, .int .u8 p.c3] 33)).alloc (.cells #[.int .i64 0, .int .i64 0, .int .i64 0, .int .i64 0, .slice none 0 0] 26)).alloc (.cells #[.int .u8 p.c0, .int .u8 p.c1, .int .u8 p.c2, .int .u8 p.c3] 33)) (w.heap.size + 1 + 1) ⟨0, 0, 0, 0⟩ none 0 0 := (Has5.new (by simp) _ _ _ _ _ _ _ _).alloc _
  have hot : ∀ k, w.heap.size ≤ k → k < ((((w.alloc (.cells #[.int .i64 B.x0, .int .i64 B.y0, .int .i64 B.x1, .int .i64 B.y1, .slice oo on om] 26)).alloc (.cells #[.int .u8 p.c0, .int .u8 p.c1, .int .u8 p.c2, .int .u8 p.c3] 33)).alloc (.cells #[.int .i64 0, .int .i64 0, .int .i64 0, .int .i64 0, .slice none 0 0] 26)).alloc (.cells #[.int .u8 p.c0, .int .u8 p.c1, .int .u8 p.c2, .int .u8 p.c3] 33)).heap.size → (apW Try.prog #[24, 24] 24 ((((w.alloc (.cells #[.int .i64 B.x0, .int .i64 B.y0, .int .i64 B.x1, .int .i64 B.y1, .slice oo on om] 26)).alloc (.cells #[.int .u8 p.c0, .int .u8 p.c1, .int .u8 p.c2, .int .u8 p.c3] 33)).alloc (.cells #[.int .i64 0, .int .i64 0, .int .i64 0, .int .i64 0, .slice none 0 0] 26)).alloc (.cells #[.int .u8 p.c0, .int .u8 p.c1, .int .u8 p.c2, .int .u8 p.c3] 33)) (.slice oo on om) (.slice (some ⟨w.heap.size + 1 + 1 + 1, 0, none⟩) 1 1)).heap[k]? = ((((w.alloc (.cells #[.int .i64 B.x0, .int .i64 B.y0, .int .i64 B.x1, .int .i64 B.y1, .slice oo on om] 26)).alloc (.cells #[.int .u8 p.c0, .int .u8 p.c1, .int .u8 p.c2, .int .u8 p.c3] 33)).alloc (.cells #[.int .i64 0, .int .i64 0, .int .i64 0, .int .i64 0, .slice none 0 0] 26)).alloc (.cells #[.int .u8 p.c0, .int .u8 p.c1, .int .u8 p.c2, .int .u8 p.c3] 33)).heap[k]? := fun k h1 h2 => hA.other k h2 (fun hc => by have := (h.new hc).2; omega)
  have HP := hid (And.intro (ox_app hA.own) (And.intro (h5.block (hot _ (Nat.le_refl _) h5.lt)) (And.intro (h0.block (hot _ (by omega) h0.lt)) (((hb3.alloc hb3.size (.cells #[.int .u8 p.c0, .int .u8 p.c1, .int .u8 p.c2, .int .u8 p.c3] 33)).mono hlo).trans hA.below))))
  have hF := hA.fine
  obtain ⟨p0, p1, p2, p3, p4, pf⟩ := HP.out.2.1
  obtain ⟨q0, q1, q2, q3, q4, qf⟩ := HP.out.2.2.1
  obtain ⟨u0, u1, u2, u3, uf⟩ := hp
  have HOT : Hid (∀ k, k < w.heap.size → (0 < om → k ≠ og) → (apW Try.prog #[24, 24] 24 ((((w.alloc (.cells #[.int .i64 B.x0, .int .i64 B.y0, .int .i64 B.x1, .int .i64 B.y1, .slice oo on om] 26)).alloc (.cells #[.int .u8 p.c0, .int .u8 p.c1, .int .u8 p.c2, .int .u8 p.c3] 33)).alloc (.cells #[.int .i64 0, .int .i64 0, .int .i64 0, .int .i64 0, .slice none 0 0] 26)).alloc (.cells #[.int .u8 p.c0, .int .u8 p.c1, .int .u8 p.c2, .int .u8 p.c3] 33)) (.slice oo on om) (.slice (some ⟨w.heap.size + 1 + 1 + 1, 0, none⟩) 1 1)).heap[k]? = w.heap[k]?) := by
    intro k h1 h2
    have hb4 : Below w.heap.size w ((((w.alloc (.cells #[.int .i64 B.x0, .int .i64 B.y0, .int .i64 B.x1, .int .i64 B.y1, .slice oo on om] 26)).alloc (.cells #[.int .u8 p.c0, .int .u8 p.c1, .int .u8 p.c2, .int .u8 p.c3] 33)).alloc (.cells #[.int .i64 0, .int .i64 0, .int .i64 0, .int .i64 0, .slice none 0 0] 26)).alloc (.cells #[.int .u8 p.c0, .int .u8 p.c1, .int .u8 p.c2, .int .u8 p.c3] 33)) := hb3.alloc hb3.size _
    exact (hA.other k (Nat.lt_of_lt_of_le h1 hb4.size) h2).trans (hb4.block k h1)
  have HPL : Hid (0 < apC Try.prog #[24, 24] 24 ((((w.alloc (.cells #[.int .i64 B.x0, .int .i64 B.y0, .int .i64 B.x1, .int .i64 B.y1, .slice oo on om] 26)).alloc (.cells #[.int .u8 p.c0, .int .u8 p.c1, .int .u8 p.c2, .int .u8 p.c3] 33)).alloc (.cells #[.int .i64 0, .int .i64 0, .int .i64 0, .int .i64 0, .slice none 0 0] 26)).alloc (.cells #[.int .u8 p.c0, .int .u8 p.c1, .int .u8 p.c2, .int .u8 p.c3] 33)) (.slice oo on om) (.slice (some ⟨w.heap.size + 1 + 1 + 1, 0, none⟩) 1 1) → b' ≠ w.heap.size ∧ b' ≠ w.heap.size + 1 + 1) := by
    intro hc
    rcases hA.place hc with ⟨h1, h2⟩ | h1
    · have := (h.new h1).2
      omega
    · simp at h1
      omega
  clear h5 h0 hot hA h hb3
  go_enter Try.func27, Try.ntmps27
  go_wp2
  clear p0 p1 p2 p3 p4 pf q0 q1 q2 q3 q4 qf u0 u1 u2 u3 uf hF
  generalize apA Try.prog #[24, 24] 24 ((((w.alloc (.cells #[.int .i64 B.x0, .int .i64 B.y0, .int .i64 B.x1, .int .i64 B.y1, .slice oo on om] 26)).alloc (.cells #[.int .u8 p.c0, .int .u8 p.c1, .int .u8 p.c2, .int .u8 p.c3] 33)).alloc (.cells #[.int .i64 0, .int .i64 0, .int .i64 0, .int .i64 0, .slice none 0 0] 26)).alloc (.cells #[.int .u8 p.c0, .int .u8 p.c1, .int .u8 p.c2, .int .u8 p.c3] 33)) (.slice oo on om) (.slice (some ⟨w.heap.size + 1 + 1 + 1, 0, none⟩) 1 1) = ra at HP ⊢
  generalize apC Try.prog #[24, 24] 24 ((((w.alloc (.cells #[.int .i64 B.x0, .int .i64 B.y0, .int .i64 B.x1, .int .i64 B.y1, .slice oo on om] 26)).alloc (.cells #[.int .u8 p.c0, .int .u8 p.c1, .int .u8 p.c2, .int .u8 p.c3] 33)).alloc (.cells #[.int .i64 0, .int .i64 0, .int .i64 0, .int .i64 0, .slice none 0 0] 26)).alloc (.cells #[.int .u8 p.c0, .int .u8 p.c1, .int .u8 p.c2, .int .u8 p.c3] 33)) (.slice oo on om) (.slice (some ⟨w.heap.size + 1 + 1 + 1, 0, none⟩) 1 1) = rc at HP HPL ⊢
  generalize apW Try.prog #[24, 24] 24 ((((w.alloc (.cells #[.int .i64 B.x0, .int .i64 B.y0, .int .i64 B.x1, .int .i64 B.y1, .slice oo on om] 26)).alloc (.cells #[.int .u8 p.c0, .int .u8 p.c1, .int .u8 p.c2, .int .u8 p.c3] 33)).alloc (.cells #[.int .i64 0, .int .i64 0, .int .i64 0, .int .i64 0, .slice none 0 0] 26)).alloc (.cells #[.int .u8 p.c0, .int .u8 p.c1, .int .u8 p.c2, .int .u8 p.c3] 33)) (.slice oo on om) (.slice (some ⟨w.heap.size + 1 + 1 + 1, 0, none⟩) 1 1) = rw at HP HOT ⊢
  have H1 := has5_slice HP.out.2.1 ra (on + 1) rc
  have hb1 := but_cell rw w.heap.size 4 (.slice ra (on + 1) rc)
  have H2 := HP.out.2.2.1.but hb1 (by omega)
  have HB : Below lo w (rw.setCell ⟨w.heap.size, 4, none⟩ (.slice ra (on + 1) rc)) := HP.out.2.2.2.setCell (p := ⟨w.heap.size, 4, none⟩) hlo _
  obtain ⟨s0, s1, s2, s3, s4⟩ := set5 H2.c0 H2.c1 H2.c2 H2.c3 H2.c4 (.int .i64 B.x0) (.int .i64 B.y0) (.int .i64 B.x1) (.int .i64 B.y1) (.slice ra (on + 1) rc)
  refine bodyPost_ret (v := .agg #[.int .i64 B.x0, .int .i64 B.y0, .int .i64 B.x1, .int .i64 B.y1, .slice ra (on + 1) rc]) (by simp [results, Try.results27, go_sem, s0, s1, s2, s3, s4]) rfl ⟨ra, rc, b', off', rfl, ?_, ?_, ?_⟩
  · exact (HP.out.1.but hb1 (fun hc => (HPL.out hc).1)).but (but_set5 _ _ _ _ _ _ _) (fun hc => (HPL.out hc).2)
  · exact below_set5 HB (by omega) _ _ _ _ _
  · intro k h1 h2
    rw [(but_set5 _ _ _ _ _ _ _).block k (Nat.lt_of_lt_of_le h1 HB.size) (by omega), hb1.block k (Nat.lt_of_lt_of_le h1 HP.out.2.2.2.size) (by omega)]
    exact HOT.out k h1 h2
end Go.Proofs.Ytfkbdpbgeglgaaa
