/- One pixel more behind a buffer: contracts. -/
import Derived.Test.YtfgfgfmimejpdaaGrows
namespace Go.Proofs.Ytfgfgfmimejpdaa
open Num Go.RowKit
set_option linter.unusedVariables false
set_option linter.unusedSimpArgs false
attribute [local go_sem ↓] run_app
attribute [local go_sem] lenV_slice

/-- a buffer is answered, of so many pixels; what was ahead of lo stays -/
def RetA (lo om og : Nat) (w w' : World) (e : Ending) (B : R) (n : Nat) (l : List X) : Prop := ∃ oo' om' og' ooff', e = .returned (.agg #[.int .i64 B.x0, .int .i64 B.y0, .int .i64 B.x1, .int .i64 B.y1, .slice oo' n om']) ∧ Ox lo w' oo' n om' og' ooff' l ∧ Below lo w w' ∧ ∀ k, k < w.heap.size → (0 < om → k ≠ og) → w'.heap[k]? = w.heap[k]?
theorem retA {lo om og : Nat} {w w' : World} {e : Ending} {B : R} {n : Nat} {l : List X} (h : RetA lo om og w w' e B n l) : ∃ oo' om' og' ooff', e = .returned (.agg #[.int .i64 B.x0, .int .i64 B.y0, .int .i64 B.x1, .int .i64 B.y1, .slice oo' n om']) ∧ Ox lo w' oo' n om' og' ooff' l ∧ Below lo w w' ∧ ∀ k, k < w.heap.size → (0 < om → k ≠ og) → w'.heap[k]? = w.heap[k]? := h

set_option maxRecDepth 100000 in
set_option maxHeartbeats 1000000 in
theorem with_any (lo : Nat) (B : R) (oo : Option Addr) (on om og ooff : Nat) (l : List X) (p : X) (w : World) (h : Ox lo w oo on om og ooff l) (hlo : lo ≤ w.heap.size) (hn : on ≤ 1000000) :
    Calls Try.prog 47 #[.agg #[.int .i64 B.x0, .int .i64 B.y0, .int .i64 B.x1, .int .i64 B.y1, .slice oo on om], pxV p] w fun e w' => RetA lo om og w w' e B (on + 1) (l ++ [p]) := by
  have hsz : (((w.alloc (.cells #[.int .i64 B.x0, .int .i64 B.y0, .int .i64 B.x1, .int .i64 B.y1, .slice oo on om] 26)).alloc (.cells #[.int .u8 p.c0, .int .u8 p.c1, .int .u8 p.c2, .int .u8 p.c3] 28)).alloc (.cells #[.int .i64 0, .int .i64 0, .int .i64 0, .int .i64 0, .slice none 0 0] 26)).heap.size = w.heap.size + 1 + 1 + 1 := by simp
  have hb3 : Below w.heap.size w (((w.alloc (.cells #[.int .i64 B.x0, .int .i64 B.y0, .int .i64 B.x1, .int .i64 B.y1, .slice oo on om] 26)).alloc (.cells #[.int .u8 p.c0, .int .u8 p.c1, .int .u8 p.c2, .int .u8 p.c3] 28)).alloc (.cells #[.int .i64 0, .int .i64 0, .int .i64 0, .int .i64 0, .slice none 0 0] 26)) := (((Below.refl _ _).alloc (Nat.le_refl _) _).alloc (by simp) _).alloc (by simp; omega) _
  obtain ⟨b', off', hA⟩ := app_px (w := (((w.alloc (.cells #[.int .i64 B.x0, .int .i64 B.y0, .int .i64 B.x1, .int .i64 B.y1, .slice oo on om] 26)).alloc (.cells #[.int .u8 p.c0, .int .u8 p.c1, .int .u8 p.c2, .int .u8 p.c3] 28)).alloc (.cells #[.int .i64 0, .int .i64 0, .int .i64 0, .int .i64 0, .slice none 0 0] 26))) (h.below hb3) (by rw [hsz]; omega) hn p
  rw [hsz] at hA
  have h5 : Has5 ((((w.alloc (.cells #[.int .i64 B.x0, .int .i64 B.y0, .int .i64 B.x1, .int .i64 B.y1, .slice oo on om] 26)).alloc (.cells #[.int .u8 p.c0, .int .u8 p.c1, .int .u8 p.c2, .int .u8 p.c3] 28)).alloc (.cells #[.int .i64 0, .int .i64 0, .int .i64 0, .int .i64 0, .slice none 0 0] 26)).alloc (.cells #[.int .u8 p.c0, .int .u8 p.c1, .int .u8 p.c2, .int .u8 p.c3] 28)) w.heap.size B oo on om := (((Has5.new rfl _ _ _ _ _ _ _ _).alloc _).alloc _).alloc _
  have hp : Rc.Has4 (((w.alloc (.cells #[.int .i64 B.x0, .int .i64 B.y0, .int .i64 B.x1, .int .i64 B.y1, .slice oo on om] 26)).alloc (.cells #[.int .u8 p.c0, .int .u8 p.c1, .int .u8 p.c2, .int .u8 p.c3] 28)).alloc (.cells #[.int .i64 0, .int .i64 0, .int .i64 0, .int .i64 0, .slice none 0 0] 26)) (w.heap.size + 1) (.int .u8 p.c0) (.int .u8 p.c1) (.int .u8 p.c2) (.int .u8 p.c3) := (Rc.Has4.new (by simp) _ _ _ _ _).alloc _
  have h0 : Has5 ((((w.alloc (.cells #[.int .i64 B.x0, .int .i64 B.y0, .int .i64 B.x1, .int .i64 B.y1, .slice oo on om] 26)).alloc (.cells #[.int .u8 p.c0, .int .u8 p.c1, .int .u8 p.c2, .int .u8 p.c3] 28)).alloc (.cells #[.int .i64 0, .int .i64 0, .int .i64 0, .int .i64 0, .slice none 0 0] 26)).alloc (.cells #[.int .u8 p.c0, .int .u8 p.c1, .int .u8 p.c2, .int .u8 p.c3] 28)) (w.heap.size + 1 + 1) ⟨0, 0, 0, 0⟩ none 0 0 := (Has5.new (by simp) _ _ _ _ _ _ _ _).alloc _
  have hot : ∀ k, w.heap.size ≤ k → k < ((((w.alloc (.cells #[.int .i64 B.x0, .int .i64 B.y0, .int .i64 B.x1, .int .i64 B.y1, .slice oo on om] 26)).alloc (.cells #[.int .u8 p.c0, .int .u8 p.c1, .int .u8 p.c2, .int .u8 p.c3] 28)).alloc (.cells #[.int .i64 0, .int .i64 0, .int .i64 0, .int .i64 0, .slice none 0 0] 26)).alloc (.cells #[.int .u8 p.c0, .int .u8 p.c1, .int .u8 p.c2, .int .u8 p.c3] 28)).heap.size → (apW Try.prog #[24, 24] 24 ((((w.alloc (.cells #[.int .i64 B.x0, .int .i64 B.y0, .int .i64 B.x1, .int .i64 B.y1, .slice oo on om] 26)).alloc (.cells #[.int .u8 p.c0, .int .u8 p.c1, .int .u8 p.c2, .int .u8 p.c3] 28)).alloc (.cells #[.int .i64 0, .int .i64 0, .int .i64 0, .int .i64 0, .slice none 0 0] 26)).alloc (.cells #[.int .u8 p.c0, .int .u8 p.c1, .int .u8 p.c2, .int .u8 p.c3] 28)) (.slice oo on om) (.slice (some ⟨w.heap.size + 1 + 1 + 1, 0, none⟩) 1 1)).heap[k]? = ((((w.alloc (.cells #[.int .i64 B.x0, .int .i64 B.y0, .int .i64 B.x1, .int .i64 B.y1, .slice oo on om] 26)).alloc (.cells #[.int .u8 p.c0, .int .u8 p.c1, .int .u8 p.c2, .int .u8 p.c3] 28)).alloc (.cells #[.int .i64 0, .int .i64 0, .int .i64 0, .int .i64 0, .slice none 0 0] 26)).alloc (.cells #[.int .u8 p.c0, .int .u8 p.c1, .int .u8 p.c2, .int .u8 p.c3] 28)).heap[k]? := fun k h1 h2 => hA.other k h2 (fun hc => by have := (h.new hc).2; omega)
  have HP := hid (And.intro (ox_app hA.own) (And.intro (h5.block (hot _ (Nat.le_refl _) h5.lt)) (And.intro (h0.block (hot _ (by omega) h0.lt)) (((hb3.alloc hb3.size (.cells #[.int .u8 p.c0, .int .u8 p.c1, .int .u8 p.c2, .int .u8 p.c3] 28)).mono hlo).trans hA.below))))
  have hF := hA.fine
  obtain ⟨p0, p1, p2, p3, p4, pf⟩ := HP.out.2.1
  obtain ⟨q0, q1, q2, q3, q4, qf⟩ := HP.out.2.2.1
  obtain ⟨u0, u1, u2, u3, uf⟩ := hp
  have HOT : Hid (∀ k, k < w.heap.size → (0 < om → k ≠ og) → (apW Try.prog #[24, 24] 24 ((((w.alloc (.cells #[.int .i64 B.x0, .int .i64 B.y0, .int .i64 B.x1, .int .i64 B.y1, .slice oo on om] 26)).alloc (.cells #[.int .u8 p.c0, .int .u8 p.c1, .int .u8 p.c2, .int .u8 p.c3] 28)).alloc (.cells #[.int .i64 0, .int .i64 0, .int .i64 0, .int .i64 0, .slice none 0 0] 26)).alloc (.cells #[.int .u8 p.c0, .int .u8 p.c1, .int .u8 p.c2, .int .u8 p.c3] 28)) (.slice oo on om) (.slice (some ⟨w.heap.size + 1 + 1 + 1, 0, none⟩) 1 1)).heap[k]? = w.heap[k]?) := by
    intro k h1 h2
    have hb4 : Below w.heap.size w ((((w.alloc (.cells #[.int .i64 B.x0, .int .i64 B.y0, .int .i64 B.x1, .int .i64 B.y1, .slice oo on om] 26)).alloc (.cells #[.int .u8 p.c0, .int .u8 p.c1, .int .u8 p.c2, .int .u8 p.c3] 28)).alloc (.cells #[.int .i64 0, .int .i64 0, .int .i64 0, .int .i64 0, .slice none 0 0] 26)).alloc (.cells #[.int .u8 p.c0, .int .u8 p.c1, .int .u8 p.c2, .int .u8 p.c3] 28)) := hb3.alloc hb3.size _
    exact (hA.other k (Nat.lt_of_lt_of_le h1 hb4.size) h2).trans (hb4.block k h1)
  have HPL : Hid (0 < apC Try.prog #[24, 24] 24 ((((w.alloc (.cells #[.int .i64 B.x0, .int .i64 B.y0, .int .i64 B.x1, .int .i64 B.y1, .slice oo on om] 26)).alloc (.cells #[.int .u8 p.c0, .int .u8 p.c1, .int .u8 p.c2, .int .u8 p.c3] 28)).alloc (.cells #[.int .i64 0, .int .i64 0, .int .i64 0, .int .i64 0, .slice none 0 0] 26)).alloc (.cells #[.int .u8 p.c0, .int .u8 p.c1, .int .u8 p.c2, .int .u8 p.c3] 28)) (.slice oo on om) (.slice (some ⟨w.heap.size + 1 + 1 + 1, 0, none⟩) 1 1) → b' ≠ w.heap.size ∧ b' ≠ w.heap.size + 1 + 1) := by
    intro hc
    rcases hA.place hc with ⟨h1, h2⟩ | h1
    · have := (h.new h1).2
      omega
    · simp at h1
      omega
  clear h5 h0 hot hA h hb3
  go_enter Try.func47, Try.ntmps47
  go_wp2
  clear p0 p1 p2 p3 p4 pf q0 q1 q2 q3 q4 qf u0 u1 u2 u3 uf hF
  generalize apA Try.prog #[24, 24] 24 ((((w.alloc (.cells #[.int .i64 B.x0, .int .i64 B.y0, .int .i64 B.x1, .int .i64 B.y1, .slice oo on om] 26)).alloc (.cells #[.int .u8 p.c0, .int .u8 p.c1, .int .u8 p.c2, .int .u8 p.c3] 28)).alloc (.cells #[.int .i64 0, .int .i64 0, .int .i64 0, .int .i64 0, .slice none 0 0] 26)).alloc (.cells #[.int .u8 p.c0, .int .u8 p.c1, .int .u8 p.c2, .int .u8 p.c3] 28)) (.slice oo on om) (.slice (some ⟨w.heap.size + 1 + 1 + 1, 0, none⟩) 1 1) = ra at HP ⊢
  generalize apC Try.prog #[24, 24] 24 ((((w.alloc (.cells #[.int .i64 B.x0, .int .i64 B.y0, .int .i64 B.x1, .int .i64 B.y1, .slice oo on om] 26)).alloc (.cells #[.int .u8 p.c0, .int .u8 p.c1, .int .u8 p.c2, .int .u8 p.c3] 28)).alloc (.cells #[.int .i64 0, .int .i64 0, .int .i64 0, .int .i64 0, .slice none 0 0] 26)).alloc (.cells #[.int .u8 p.c0, .int .u8 p.c1, .int .u8 p.c2, .int .u8 p.c3] 28)) (.slice oo on om) (.slice (some ⟨w.heap.size + 1 + 1 + 1, 0, none⟩) 1 1) = rc at HP HPL ⊢
  generalize apW Try.prog #[24, 24] 24 ((((w.alloc (.cells #[.int .i64 B.x0, .int .i64 B.y0, .int .i64 B.x1, .int .i64 B.y1, .slice oo on om] 26)).alloc (.cells #[.int .u8 p.c0, .int .u8 p.c1, .int .u8 p.c2, .int .u8 p.c3] 28)).alloc (.cells #[.int .i64 0, .int .i64 0, .int .i64 0, .int .i64 0, .slice none 0 0] 26)).alloc (.cells #[.int .u8 p.c0, .int .u8 p.c1, .int .u8 p.c2, .int .u8 p.c3] 28)) (.slice oo on om) (.slice (some ⟨w.heap.size + 1 + 1 + 1, 0, none⟩) 1 1) = rw at HP HOT ⊢
  have H1 := has5_slice HP.out.2.1 ra (on + 1) rc
  have hb1 := but_cell rw w.heap.size 4 (.slice ra (on + 1) rc)
  have H2 := HP.out.2.2.1.but hb1 (by omega)
  have HB : Below lo w (rw.setCell ⟨w.heap.size, 4, none⟩ (.slice ra (on + 1) rc)) := HP.out.2.2.2.setCell (p := ⟨w.heap.size, 4, none⟩) hlo _
  obtain ⟨s0, s1, s2, s3, s4⟩ := set5 H2.c0 H2.c1 H2.c2 H2.c3 H2.c4 (.int .i64 B.x0) (.int .i64 B.y0) (.int .i64 B.x1) (.int .i64 B.y1) (.slice ra (on + 1) rc)
  refine bodyPost_ret (v := .agg #[.int .i64 B.x0, .int .i64 B.y0, .int .i64 B.x1, .int .i64 B.y1, .slice ra (on + 1) rc]) (by simp [results, Try.results47, go_sem, s0, s1, s2, s3, s4]) rfl ⟨ra, rc, b', off', rfl, ?_, ?_, ?_⟩
  · exact (HP.out.1.but hb1 (fun hc => (HPL.out hc).1)).but (but_set5 _ _ _ _ _ _ _) (fun hc => (HPL.out hc).2)
  · exact below_set5 HB (by omega) _ _ _ _ _
  · intro k h1 h2
    rw [(but_set5 _ _ _ _ _ _ _).block k (Nat.lt_of_lt_of_le h1 HB.size) (by omega), hb1.block k (Nat.lt_of_lt_of_le h1 HP.out.2.2.2.size) (by omega)]
    exact HOT.out k h1 h2
theorem has5_box {w : World} {k : Nat} {B : R} {ao : Option Addr} {n c : Nat} (h : Has5 w k B ao n c) (a b c' d : Int) : Has5 ((((w.setCell ⟨k, 0, none⟩ (.int .i64 a)).setCell ⟨k, 1, none⟩ (.int .i64 b)).setCell ⟨k, 2, none⟩ (.int .i64 c')).setCell ⟨k, 3, none⟩ (.int .i64 d)) k ⟨a, b, c', d⟩ ao n c := by
  obtain ⟨s0, s1, s2, s3⟩ := Rc.set4 h.c0 h.c1 h.c2 h.c3 (.int .i64 a) (.int .i64 b) (.int .i64 c') (.int .i64 d)
  refine ⟨s0, s1, s2, s3, ?_, fun o => by rw [World.frozen?_setCell, World.frozen?_setCell, World.frozen?_setCell, World.frozen?_setCell]; exact h.fz o⟩
  rw [World.cell?_setCell_other _ _ _ _ (by simp), World.cell?_setCell_other _ _ _ _ (by simp), World.cell?_setCell_other _ _ _ _ (by simp), World.cell?_setCell_other _ _ _ _ (by simp)]
  exact h.c4
theorem Gs.next {W0 : World} {ko : Nat} {D : R} {l l' : List X} {oo oo' : Option Addr} {on om og ooff on' om' og' ooff' : Nat} {w w5 : World} (h : Gs W0 ko D l oo on om og ooff w) (hO : Ox (ko + 1) w5 oo' on' om' og' ooff' l') (hB : Below (ko + 1) w w5) (h5 : Has5 w5 ko D oo on om) :
    Gs W0 ko D l' oo' on' om' og' ooff' (((((w5.setCell ⟨ko, 0, none⟩ (.int .i64 D.x0)).setCell ⟨ko, 1, none⟩ (.int .i64 D.y0)).setCell ⟨ko, 2, none⟩ (.int .i64 D.x1)).setCell ⟨ko, 3, none⟩ (.int .i64 D.y1)).setCell ⟨ko, 4, none⟩ (.slice oo' on' om')) :=
  ⟨has5_set h5 _ _ _ _ _ _ _, hO.but (but_set5 _ _ _ _ _ _ _) (fun hc => by have := (hO.new hc).1; omega), below_set5 (h.low.trans (hB.mono (Nat.le_succ _))) (Nat.le_refl _) _ _ _ _ _⟩
theorem with4 (lo : Nat) (B : R) (oo : Option Addr) (on om og ooff : Nat) (l : List X) (a b c d : Int) (w : World) (h : Ox lo w oo on om og ooff l) (hlo : lo ≤ w.heap.size) (hn : on ≤ 1000000) :
    Calls Try.prog 47 #[.agg #[.int .i64 B.x0, .int .i64 B.y0, .int .i64 B.x1, .int .i64 B.y1, .slice oo on om], .agg #[.int .u8 a, .int .u8 b, .int .u8 c, .int .u8 d]] w fun e w' => RetA lo om og w w' e B (on + 1) (l ++ [⟨a, b, c, d⟩]) := with_any lo B oo on om og ooff l ⟨a, b, c, d⟩ w h hlo hn
theorem has4_block {w w' : World} {k : Nat} {v0 v1 v2 v3 : Value} (h : Rc.Has4 w k v0 v1 v2 v3) (e : w'.heap[k]? = w.heap[k]?) : Rc.Has4 w' k v0 v1 v2 v3 := by
  have hc : ∀ j, w'.cell? ⟨k, j, none⟩ = w.cell? ⟨k, j, none⟩ := fun j => World.cell?_of_block (a := ⟨k, j, none⟩) e
  exact ⟨by rw [hc]; exact h.c0, by rw [hc]; exact h.c1, by rw [hc]; exact h.c2, by rw [hc]; exact h.c3, fun j => by rw [World.frozen?_of_block (a := ⟨k, j, none⟩) e]; exact h.fz j⟩
end Go.Proofs.Ytfgfgfmimejpdaa
