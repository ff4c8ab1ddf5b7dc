/- What is asked of a place is joined through a pointer: contracts. -/
import Derived.Test.YtamojciiacmjaaaDoorNdOf
import Derived.Test.YtamojciiacmjaaaDoorNdSol
namespace Go.Proofs.YtamojciiacmjaaaDoor
open Num Go.RowKit
open Rg.Num (R empB orN nil moveR grow meet join mvd mx mn cutR Ok Pr boxQ hasB)
set_option linter.unusedVariables false
set_option linter.unusedSimpArgs false

/-- two blocks alone are written -/
structure Two (g h : Nat) (w w' : World) : Prop where
  os : w'.os = w.os
  tape : w'.tape = w.tape
  output : w'.output = w.output
  size : w.heap.size ≤ w'.heap.size
  block : ∀ k, k < w.heap.size → k ≠ g → k ≠ h → w'.heap[k]? = w.heap[k]?
theorem Two.refl (g h : Nat) (w : World) : Two g h w w := ⟨rfl, rfl, rfl, Nat.le_refl _, fun _ _ _ _ => rfl⟩
theorem Two.trans {g h : Nat} {a b c : World} (x : Two g h a b) (y : Two g h b c) : Two g h a c := ⟨y.os.trans x.os, y.tape.trans x.tape, y.output.trans x.output, Nat.le_trans x.size y.size, fun k hk h1 h2 => (y.block k (Nat.lt_of_lt_of_le hk x.size) h1 h2).trans (x.block k hk h1 h2)⟩

theorem rw_but2 {B g : Nat} {W w : World} {ao : Option Addr} {n c b off : Nat} {l : List R} (h : Rg.Ow B W ao n c b off l) (hb : But g W w) (hg : b ≠ g) : Rg.Ow B w ao n c b off l :=
  Rg.Oz.block h hb.size fun hc => hb.block b (h.new hc).2 hg
/-- what is asked of each node, and of Source -/
structure Ask (B : Nat) (w : World) (ka kn n : Nat) (st : St2) : Prop where
  s : w.cell? ⟨ka, 0, none⟩ = some (.slice (some ⟨kn, 0, none⟩) n n)
  c0 : w.cell? ⟨ka, 1, none⟩ = some (.int .i64 st.2.x0)
  c1 : w.cell? ⟨ka, 2, none⟩ = some (.int .i64 st.2.y0)
  c2 : w.cell? ⟨ka, 3, none⟩ = some (.int .i64 st.2.x1)
  c3 : w.cell? ⟨ka, 4, none⟩ = some (.int .i64 st.2.y1)
  fz : ∀ o, w.frozen? ⟨ka, o, none⟩ = false
  o : Rg.Ow B w (some ⟨kn, 0, none⟩) n n kn 0 st.1
  ba : B ≤ ka
  bn : B ≤ kn
  ne : ka ≠ kn

set_option maxRecDepth 100000 in
set_option maxHeartbeats 1000000 in
theorem src_any (ka : Nat) (w : World) :
    Calls Tryd.prog 58 #[.pointer (some ⟨ka, 0, none⟩), .int .i64 (-1)] w fun e w' => e = .returned (.pointer (some ⟨ka, 1, none⟩)) ∧ Below w.heap.size w w' := by
  go_enter Tryd.func58, Tryd.ntmps58
  go_wp2
  go_ret
  exact ⟨rfl, Below.refl _ _⟩
set_option maxRecDepth 100000 in
set_option maxHeartbeats 1000000 in
theorem node_any (ka kn n : Nat) (x : Nat) (w : World) (hs : w.cell? ⟨ka, 0, none⟩ = some (.slice (some ⟨kn, 0, none⟩) n n)) (hx : x < n) :
    Calls Tryd.prog 58 #[.pointer (some ⟨ka, 0, none⟩), .int .i64 x] w fun e w' => e = .returned (.pointer (some ⟨kn, x * 4, none⟩)) ∧ Below w.heap.size w w' := by
  have h1 : ¬ ((x : Int) = -1) := by omega
  have h2 : ¬ ((x : Int) < 0) := by omega
  have h3 : ¬ ((n : Int) ≤ (x : Int)) := by omega
  have h4 : (x : Int) < (n : Int) := by omega
  go_enter Tryd.func58, Tryd.ntmps58
  go_wp2
  go_ret
  exact ⟨rfl, Below.refl _ _⟩
/-- four cells of a place, wherever they lie -/
theorem two_set4 {g h : Nat} (w : World) (k : Nat) (hk : k = g ∨ k = h) (p q r s : Nat) (u0 u1 u2 u3 : Value) : Two g h w ((((w.setCell ⟨k, p, none⟩ u0).setCell ⟨k, q, none⟩ u1).setCell ⟨k, r, none⟩ u2).setCell ⟨k, s, none⟩ u3) := by
  have hb := but_set4 w k p q r s u0 u1 u2 u3
  exact ⟨hb.os, hb.tape, hb.output, hb.size, fun j hj h1 h2 => hb.block j hj (by rcases hk with rfl | rfl <;> assumption)⟩
theorem two_low {g h : Nat} {w w' : World} (hb : Below w.heap.size w w') : Two g h w w' := ⟨hb.os, hb.tape, hb.output, hb.size, fun k hk _ _ => hb.block k hk⟩
theorem Ask.to {B : Nat} {w w' : World} {ka kn n : Nat} {st : St2} (h : Ask B w ka kn n st) (hb : Below w.heap.size w w') : Ask B w' ka kn n st := by
  have hk : ka < w.heap.size := World.block_lt_of_cell? _ _ h.s
  exact ⟨cell_below hb h.s, cell_below hb h.c0, cell_below hb h.c1, cell_below hb h.c2, cell_below hb h.c3, fun o => by rw [hb.frozen (p := ⟨ka, o, none⟩) hk]; exact h.fz o, h.o.below hb, h.ba, h.bn, h.ne⟩
/-- Source's rectangle is written -/
theorem ask_src {B : Nat} {w : World} {ka kn n : Nat} {st : St2} (h : Ask B w ka kn n st) (r : R) : Ask B ((((w.setCell ⟨ka, 1, none⟩ (.int .i64 r.x0)).setCell ⟨ka, 2, none⟩ (.int .i64 r.y0)).setCell ⟨ka, 3, none⟩ (.int .i64 r.x1)).setCell ⟨ka, 4, none⟩ (.int .i64 r.y1)) ka kn n (st.1, r) := by
  have hb := but_set4 w ka 1 2 3 4 (.int .i64 r.x0) (.int .i64 r.y0) (.int .i64 r.x1) (.int .i64 r.y1)
  have e : ∀ j (hj : j < [Value.int .i64 r.x0, .int .i64 r.y0, .int .i64 r.x1, .int .i64 r.y1].length), _ := World.cell?_setCells_in ka [Value.int .i64 r.x0, .int .i64 r.y0, .int .i64 r.x1, .int .i64 r.y1] 1 w (fun j hj => by
    have : j = 0 ∨ j = 1 ∨ j = 2 ∨ j = 3 := by simp at hj; omega
    rcases this with rfl | rfl | rfl | rfl
    · show (w.cell? ⟨ka, 1, none⟩).isSome = true; rw [h.c0]; rfl
    · show (w.cell? ⟨ka, 2, none⟩).isSome = true; rw [h.c1]; rfl
    · show (w.cell? ⟨ka, 3, none⟩).isSome = true; rw [h.c2]; rfl
    · show (w.cell? ⟨ka, 4, none⟩).isSome = true; rw [h.c3]; rfl)
  refine ⟨?_, e 0 (by simp), e 1 (by simp), e 2 (by simp), e 3 (by simp), fun o => by simp [World.frozen?_setCell, h.fz o], rw_but2 h.o hb (fun hc => h.ne hc.symm), h.ba, h.bn, h.ne⟩
  rw [World.cell?_setCell_other _ _ _ _ (by simp), World.cell?_setCell_other _ _ _ _ (by simp), World.cell?_setCell_other _ _ _ _ (by simp), World.cell?_setCell_other _ _ _ _ (by simp)]
  exact h.s
/-- a node's rectangle is written -/
theorem ask_node {B : Nat} {w : World} {ka kn n : Nat} {st : St2} (h : Ask B w ka kn n st) {a : Nat} (ha : a < st.1.length) (r : R) : Ask B ((((w.setCell ⟨kn, a * 4, none⟩ (.int .i64 r.x0)).setCell ⟨kn, a * 4 + 1, none⟩ (.int .i64 r.y0)).setCell ⟨kn, a * 4 + 2, none⟩ (.int .i64 r.x1)).setCell ⟨kn, a * 4 + 3, none⟩ (.int .i64 r.y1)) ka kn n (st.1.set a r, st.2) := by
  have hb := but_set4 w kn (a * 4) (a * 4 + 1) (a * 4 + 2) (a * 4 + 3) (.int .i64 r.x0) (.int .i64 r.y0) (.int .i64 r.x1) (.int .i64 r.y1)
  have hk : ka < w.heap.size := World.block_lt_of_cell? _ _ h.s
  have hblk := hb.block ka hk h.ne
  have hc : ∀ j, _ := fun j => World.cell?_of_block (a := ⟨ka, j, none⟩) hblk
  exact ⟨(hc 0).trans h.s, (hc 1).trans h.c0, (hc 2).trans h.c1, (hc 3).trans h.c2, (hc 4).trans h.c3, fun o => (World.frozen?_of_block (a := ⟨ka, o, none⟩) hblk).trans (h.fz o), Rg.ow_set40 h.o ha r, h.ba, h.bn, h.ne⟩

set_option maxRecDepth 100000 in
set_option maxHeartbeats 1000000 in
theorem askjoin_any (B ka kn n : Nat) (st : St2) (x : Int) (a b c d : Int) (w : World) (h : Ask B w ka kn n st) (hl : st.1.length = n) (hx : Plc n x) :
    Calls Tryd.prog 34 #[.pointer (some ⟨ka, 0, none⟩), .int .i64 x, .agg #[.int .i64 a, .int .i64 b, .int .i64 c, .int .i64 d]] w fun e w' => e = .returned (.tuple #[]) ∧ Ask B w' ka kn n (joinK ⟨a, b, c, d⟩ st x) ∧ Two ka kn w w' := by
  have hb0 := al (W := w) (.cells #[.int .i64 a, .int .i64 b, .int .i64 c, .int .i64 d] 26)
  have H0 := hid (And.intro (h.to hb0) hb0)
  have HU := hid (Rg.Rc.Has4.new (W := w) (k := w.heap.size) rfl (.int .i64 a) (.int .i64 b) (.int .i64 c) (.int .i64 d) 26)
  by_cases h1 : x = -1
  · subst h1
    have HJ : Hid (joinK ⟨a, b, c, d⟩ st (-1) = (st.1, join st.2 ⟨a, b, c, d⟩)) := hid (by unfold joinK; rw [if_pos rfl])
    clear h hb0 hx
    go_enter Tryd.func34, Tryd.ntmps34
    go_wp2_with (go_at_call 58; with_reducible refine Calls.mono (src_any ka _) ?_; rintro e w1 ⟨rfl, hb⟩; have H1 := hid (And.intro (H0.out.1.to hb) (via H0.out.2 hb)); have HU1 := hid (HU.out.below hb); clear hb)
    obtain ⟨s, c0, c1, c2, c3, fz, o, ba, bn, ne⟩ := id H1.out.1
    obtain ⟨u0, u1, u2, u3, uf⟩ := id HU1.out
    clear s o ba bn ne
    generalize hq : st.2 = q at *
    go_region_with (go_at_call 53; with_reducible refine Calls.mono (Rg.Rc.join_any q.x0 q.y0 q.x1 q.y1 a b c d _) ?_; rintro e w2 ⟨rfl, hb⟩; have HB2 := hid (via (Below.refl _ _).drew hb); have H2 := hid (And.intro (H1.out.1.to HB2.out) (via H1.out.2 HB2.out)); obtain ⟨-, d0, d1, d2, d3, dfz, -, -, -, -⟩ := id H2.out.1; clear hb)
    all_goals (
      go_wp2
      go_end0
      refine ⟨rfl, ?_, ?_⟩
      · rw [HJ.out]; exact ask_src H2.out.1 _
      · exact (two_low H2.out.2).trans (two_set4 _ _ (Or.inl rfl) _ _ _ _ _ _ _ _))
  · obtain ⟨k, rfl⟩ : ∃ k : Nat, x = (k : Int) := ⟨x.toNat, by rcases hx with hx | hx <;> omega⟩
    have hk : k < n := by rcases hx with hx | hx <;> omega
    have HJ : Hid (joinK ⟨a, b, c, d⟩ st (k : Int) = (st.1.set k (join (fK st.1 k) ⟨a, b, c, d⟩), st.2)) := hid (by unfold joinK; rw [if_neg h1, if_pos (by rw [hl]; exact ⟨by omega, by omega⟩), Int.toNat_natCast])
    have HK := hid (And.intro hk hl)
    obtain ⟨q, hq⟩ : ∃ q, q = fK st.1 k := ⟨_, rfl⟩
    have HQ := hid (show st.1[k]? = some q by rw [hq]; exact fK_get (by omega))
    rw [← hq] at HJ
    clear h hb0 hx h1 hq hl
    go_enter Tryd.func34, Tryd.ntmps34
    go_wp2_with (go_at_call 58; with_reducible refine Calls.mono (node_any ka kn n k _ H0.out.1.s HK.out.1) ?_; rintro e w1 ⟨rfl, hb⟩; have H1 := hid (And.intro (H0.out.1.to hb) (via H0.out.2 hb)); have HU1 := hid (HU.out.below hb); clear hb)
    obtain ⟨-, c0, c1, c2, c3⟩ := Rg.vw_at H1.out.1.o.v HQ.out
    obtain ⟨r', g0, g1, g2, g3, f0, f1, f2, f3⟩ := Rg.ow_four0 H1.out.1.o (show k < st.1.length by rw [HK.out.2]; exact HK.out.1)
    rw [Nat.zero_add] at c0 c1 c2 c3
    obtain ⟨u0, u1, u2, u3, uf⟩ := id HU1.out
    clear g0 g1 g2 g3
    go_region_with (go_at_call 53; with_reducible refine Calls.mono (Rg.Rc.join_any q.x0 q.y0 q.x1 q.y1 a b c d _) ?_; rintro e w2 ⟨rfl, hb⟩; have HB2 := hid (via (Below.refl _ _).drew hb); have H2 := hid (And.intro (H1.out.1.to HB2.out) (via H1.out.2 HB2.out)); obtain ⟨r2, g0, g1, g2, g3, d0, d1, d2, d3⟩ := Rg.ow_four0 H2.out.1.o (show k < st.1.length by rw [HK.out.2]; exact HK.out.1); clear hb)
    all_goals (
      go_wp2
      go_end0
      refine ⟨rfl, ?_, ?_⟩
      · rw [HJ.out]; exact ask_node H2.out.1 (by rw [HK.out.2]; exact HK.out.1) _
      · exact (two_low H2.out.2).trans (two_set4 _ _ (Or.inr rfl) _ _ _ _ _ _ _ _))
end Go.Proofs.YtamojciiacmjaaaDoor
