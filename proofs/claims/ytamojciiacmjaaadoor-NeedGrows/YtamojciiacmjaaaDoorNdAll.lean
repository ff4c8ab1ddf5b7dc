/- What a filter needs, as the program asks for it: the contract. -/
import Derived.RangeFuncFrom
import Derived.Sort.LoopGhostIn
import Derived.Test.YtamojciiacmjaaaDoorNdIter
import Derived.Test.YtamojciiacmjaaaDoorNdRefAll
import Derived.Test.YtamojciiacmjaaaDoorHeapA
namespace Go.Proofs.YtamojciiacmjaaaDoor
open Num Go.RowKit Go.Shelf
open Rg.Num (R empB orN nil moveR grow meet join mvd mx mn cutR Ok Pr boxQ hasB)
set_option linter.unusedVariables false
set_option linter.unusedSimpArgs false
attribute [local go_sem] Oper.semAt_some

theorem block_kept {W W' : World} {row : Option Nat} {k j : Nat} {v : Value} (h : W.cell? ⟨k, j, none⟩ = some v) (hg : W.grownBy W' row) (hrow : ∀ r, row = some r → ∃ o : Obj, W.heap[r]? = some o ∧ o.isCells = false) : W'.heap[k]? = W.heap[k]? := by
  obtain ⟨o, ho, hc⟩ := cells_of_cell h
  exact grownBy_keeps_cells hg hrow ho hc
/-- what is asked stands when what is no cells turns -/
theorem ask_kept {B : Nat} {W W' : World} {row : Option Nat} {ka kn n : Nat} {st : St2} (h : Ask B W ka kn n st) (hg : W.grownBy W' row) (hrow : ∀ r, row = some r → ∃ o : Obj, W.heap[r]? = some o ∧ o.isCells = false) (hl : st.1.length = n) : Ask B W' ka kn n st := by
  refine ⟨cell_kept h.s hg hrow, cell_kept h.c0 hg hrow, cell_kept h.c1 hg hrow, cell_kept h.c2 hg hrow, cell_kept h.c3 hg hrow, fun o => ?_, ?_, h.ba, h.bn, h.ne⟩
  · have e := block_kept h.s hg hrow
    exact (World.frozen?_of_block (a := ⟨ka, o, none⟩) e).trans (h.fz o)
  · refine Rg.Oz.block h.o hg.size fun hc => ?_
    obtain ⟨r, hr⟩ : ∃ r, st.1[0]? = some r := ⟨_, List.getElem?_eq_getElem (by omega)⟩
    obtain ⟨-, c0, -⟩ := Rg.vw_at h.o.v hr
    exact block_kept c0 hg hrow
theorem keeps_two {B : Nat} {W W' : World} {ka kn n : Nat} {st : St2} (h : Ask B W ka kn n st) (hn : 0 < n) (hl : st.1.length = n) (ht : Two ka kn W W') : KeepsOthers W W' := by
  refine ⟨ht.size, fun k o hk ho => ?_⟩
  have h1 : k ≠ ka := fun e => by
    subst e
    obtain ⟨o', ho', hc⟩ := cells_of_cell h.s
    rw [hk] at ho'
    obtain rfl := Option.some.inj ho'
    rw [ho] at hc
    cases hc
  have h2 : k ≠ kn := fun e => by
    subst e
    obtain ⟨r, hr⟩ : ∃ r, st.1[0]? = some r := ⟨_, List.getElem?_eq_getElem (by omega)⟩
    obtain ⟨-, c0, -⟩ := Rg.vw_at h.o.v hr
    obtain ⟨o', ho', hc⟩ := cells_of_cell c0
    rw [hk] at ho'
    obtain rfl := Option.some.inj ho'
    rw [ho] at hc
    cases hc
  exact (ht.block k (Array.getElem?_eq_some_iff.1 hk).1 h1 h2).trans hk
theorem two_cell {g h : Nat} {W W' : World} (ht : Two g h W W') {k j : Nat} {v : Value} (hc : W.cell? ⟨k, j, none⟩ = some v) (h1 : k ≠ g) (h2 : k ≠ h) : W'.cell? ⟨k, j, none⟩ = some v :=
  (World.cell?_of_block (a := ⟨k, j, none⟩) (ht.block k (World.block_lt_of_cell? _ _ hc) h1 h2)).trans hc
theorem two_below {g h B : Nat} {w W W' : World} (hb : Below B w W) (ht : Two g h W W') (hg : B ≤ g) (hh : B ≤ h) (hB : B ≤ w.heap.size) : Below B w W' := by
  refine ⟨ht.os.trans hb.os, ht.tape.trans hb.tape, ht.output.trans hb.output, Nat.le_trans hb.size ht.size, fun k hk => ?_⟩
  exact (ht.block k (by have := hb.size; omega) (by omega) (by omega)).trans (hb.block k hk)
/-- the filter's box, the answer's cells, what is asked, and all that was there -/
structure Ak (w W : World) (ao : Option Addr) (n c : Nat) (out : Int) (st : St2) : Prop where
  g0 : W.cell? ⟨w.heap.size, 0, none⟩ = some (.slice ao n c)
  g1 : W.cell? ⟨w.heap.size, 1, none⟩ = some (.int .i64 out)
  z : Rg.Rc.Has4 W (w.heap.size + 1 + 1) (.int .i64 0) (.int .i64 0) (.int .i64 0) (.int .i64 0)
  a : Ask w.heap.size W (w.heap.size + 1 + 1 + 1 + 1) (w.heap.size + 1 + 1 + 1) n st
  low : Below w.heap.size w W
  len : st.1.length = n
section
variable {w W W' : World} {ao : Option Addr} {n c : Nat} {out : Int} {st st' : St2}
theorem Ak.to (h : Ak w W ao n c out st) (hb : Below W.heap.size W W') : Ak w W' ao n c out st := ⟨cell_below hb h.g0, cell_below hb h.g1, h.z.below hb, h.a.to hb, via (w := w) h.low hb, h.len⟩
theorem ak_two (h : Ak w W ao n c out st) (ht : Two (w.heap.size + 1 + 1 + 1 + 1) (w.heap.size + 1 + 1 + 1) W W') (ha : Ask w.heap.size W' (w.heap.size + 1 + 1 + 1 + 1) (w.heap.size + 1 + 1 + 1) n st') (hl : st'.1.length = n) : Ak w W' ao n c out st' := by
  have hz : w.heap.size + 1 + 1 < W.heap.size := World.block_lt_of_cell? _ _ h.z.c0
  have e : ∀ i, _ := fun i => World.cell?_of_block (a := ⟨w.heap.size + 1 + 1, i, none⟩) (ht.block (w.heap.size + 1 + 1) hz (by omega) (by omega))
  exact ⟨two_cell ht h.g0 (by omega) (by omega), two_cell ht h.g1 (by omega) (by omega), ⟨(e 0).trans h.z.c0, (e 1).trans h.z.c1, (e 2).trans h.z.c2, (e 3).trans h.z.c3, fun o => (World.frozen?_of_block (a := ⟨w.heap.size + 1 + 1, o, none⟩) (ht.block (w.heap.size + 1 + 1) hz (by omega) (by omega))).trans (h.z.fz o)⟩, ha, two_below h.low ht (by omega) (by omega) (Nat.le_refl _), hl⟩
theorem ak_kept {row : Option Nat} (h : Ak w W ao n c out st) (hg : W.grownBy W' row) (hr : ∀ r, row = some r → w.heap.size ≤ r ∧ ∃ o : Obj, W.heap[r]? = some o ∧ o.isCells = false) : Ak w W' ao n c out st := by
  have hr' := fun r e => (hr r e).2
  exact ⟨cell_kept h.g0 hg hr', cell_kept h.g1 hg hr', ⟨cell_kept h.z.c0 hg hr', cell_kept h.z.c1 hg hr', cell_kept h.z.c2 hg hr', cell_kept h.z.c3 hg hr', fun o => (World.frozen?_of_block (a := ⟨w.heap.size + 1 + 1, o, none⟩) (block_kept h.z.c0 hg hr')).trans (h.z.fz o)⟩, ask_kept h.a hg hr' h.len, h.low.grown hg h.low.size (fun k e => (hr k e).1), h.len⟩
end
theorem ak_new (w : World) (ao : Option Addr) (n c : Nat) (out : Int) (p q r s : Int) (hn : n ≤ 1000000) (W : World) (hW : W = ((((w.alloc (.cells #[.slice ao n c, .int .i64 out] 36)).alloc (.cells #[.int .i64 p, .int .i64 q, .int .i64 r, .int .i64 s] 26)).alloc (.cells #[.int .i64 0, .int .i64 0, .int .i64 0, .int .i64 0] 26)).alloc (.cells (Rg.zeroCs n) 26)).alloc (.cells #[.slice (some ⟨w.heap.size + 1 + 1 + 1, 0, none⟩) n n, .int .i64 0, .int .i64 0, .int .i64 0, .int .i64 0] 60)) :
    Ak w W ao n c out (List.replicate n nil, nil) ∧ Rg.Rc.Has4 W (w.heap.size + 1) (.int .i64 p) (.int .i64 q) (.int .i64 r) (.int .i64 s) := by
  obtain ⟨W1, hW1⟩ : ∃ W1, W1 = (((w.alloc (.cells #[.slice ao n c, .int .i64 out] 36)).alloc (.cells #[.int .i64 p, .int .i64 q, .int .i64 r, .int .i64 s] 26)).alloc (.cells #[.int .i64 0, .int .i64 0, .int .i64 0, .int .i64 0] 26)).alloc (.cells (Rg.zeroCs n) 26) := ⟨_, rfl⟩
  obtain ⟨z1, g, s4, z4, o⟩ := aq_new w ao n c out p q r s hn W1 hW1
  rw [← hW1] at hW
  subst hW
  have hb := al (W := W1) (.cells #[.slice (some ⟨w.heap.size + 1 + 1 + 1, 0, none⟩) n n, .int .i64 0, .int .i64 0, .int .i64 0, .int .i64 0] 60)
  have hc : ∀ j, _ := fun j => World.cell?_alloc_new W1 #[.slice (some ⟨w.heap.size + 1 + 1 + 1, 0, none⟩) n n, .int .i64 0, .int .i64 0, .int .i64 0, .int .i64 0] 60 j
  rw [z1] at hc
  have hfz : ∀ j, _ := fun j => World.frozen?_alloc_new W1 #[.slice (some ⟨w.heap.size + 1 + 1 + 1, 0, none⟩) n n, .int .i64 0, .int .i64 0, .int .i64 0, .int .i64 0] 60 j
  rw [z1] at hfz
  have hg := sg_below g hb
  exact ⟨⟨hg.1.1, hg.1.2, z4.below hb, ⟨hc 0, hc 1, hc 2, hc 3, hc 4, hfz, Rg.Oz.below o hb, by omega, by omega, by omega⟩, hg.2, by simp⟩, s4.below hb⟩
end Go.Proofs.YtamojciiacmjaaaDoor
