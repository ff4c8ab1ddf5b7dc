/- A buffer that is made pixel by pixel. -/
import Derived.Test.YtfgfgfmimejpdaaPuts
import Derived.Test.YtfgfgfmimejpdaaAtB
namespace Go.Proofs.Ytfgfgfmimejpdaa
open Num Go.RowKit
set_option linter.unusedVariables false
set_option linter.unusedSimpArgs false

theorem has5_low {lo : Nat} {w w' : World} {k : Nat} {B : R} {ao : Option Addr} {n c : Nat} (h : Has5 w k B ao n c) (hb : Below lo w w') (hk : k < lo) : Has5 w' k B ao n c := h.block (hb.block k hk)
theorem has4_low {lo : Nat} {w w' : World} {k : Nat} {v0 v1 v2 v3 : Value} (h : Rc.Has4 w k v0 v1 v2 v3) (hb : Below lo w w') (hk : k < lo) : Rc.Has4 w' k v0 v1 v2 v3 := by
  have e := hb.block k hk
  have hc : ∀ j, w'.cell? ⟨k, j, none⟩ = w.cell? ⟨k, j, none⟩ := fun j => World.cell?_of_block (a := ⟨k, j, none⟩) e
  exact ⟨by rw [hc]; exact h.c0, by rw [hc]; exact h.c1, by rw [hc]; exact h.c2, by rw [hc]; exact h.c3, fun j => by rw [World.frozen?_of_block (a := ⟨k, j, none⟩) e]; exact h.fz j⟩
theorem vz_low {lo sz : Nat} {w w' : World} {ao : Option Addr} {n c b off : Nat} {cs : List Value} (h : Vz sz w ao n c b off cs) (hb : Below lo w w') (hk : 0 < cs.length → b < lo) : Vz sz w' ao n c b off cs := by
  refine ⟨h.len, h.le, h.max, h.addr, fun j u hu => ?_⟩
  have hj : j < cs.length := (List.getElem?_eq_some_iff.1 hu).1
  exact (World.cell?_of_block (a := ⟨b, off + j, none⟩) (hb.block b (hk (by omega)))).trans (h.lies j u hu)

/-- the buffer in the block ko, its pixels in blocks behind; all ahead is as it was -/
structure Gs (W0 : World) (ko : Nat) (B : R) (l : List X) (oo : Option Addr) (on om og ooff : Nat) (w : World) : Prop where
  o : Has5 w ko B oo on om
  x : Ox (ko + 1) w oo on om og ooff l
  low : Below ko W0 w
theorem Gs.lt {W0 : World} {ko : Nat} {B : R} {l : List X} {oo : Option Addr} {on om og ooff : Nat} {w : World} (h : Gs W0 ko B l oo on om og ooff w) : ko < w.heap.size := h.o.lt
theorem Gs.below {W0 : World} {ko : Nat} {B : R} {l : List X} {oo : Option Addr} {on om og ooff : Nat} {w w' : World} (h : Gs W0 ko B l oo on om og ooff w) (hb : Below w.heap.size w w') : Gs W0 ko B l oo on om og ooff w' :=
  ⟨h.o.below hb, h.x.below hb, h.low.trans (hb.mono (Nat.le_of_lt h.lt))⟩
/-- a block of one's own is written -/
theorem Gs.but {W0 : World} {ko : Nat} {B : R} {l : List X} {oo : Option Addr} {on om og ooff : Nat} {w w' : World} (h : Gs W0 ko B l oo on om og ooff w) {j : Nat} (hb : But j w w') (hj : ko < j) (hg : 0 < om → og ≠ j) : Gs W0 ko B l oo on om og ooff w' :=
  ⟨h.o.but hb (by omega), h.x.but hb hg, h.low.trans (hb.low (Nat.le_of_lt hj) (Nat.le_of_lt h.lt))⟩
theorem has5_slice {w : World} {k : Nat} {B : R} {ao : Option Addr} {n c : Nat} (h : Has5 w k B ao n c) (ao' : Option Addr) (n' m' : Nat) : Has5 (w.setCell ⟨k, 4, none⟩ (.slice ao' n' m')) k B ao' n' m' := by
  refine ⟨?_, ?_, ?_, ?_, World.cell?_setCell_same _ _ _ h.c4, fun o => by simp [World.frozen?_setCell, h.fz o]⟩
  · rw [World.cell?_setCell_other _ _ _ _ (by simp)]; exact h.c0
  · rw [World.cell?_setCell_other _ _ _ _ (by simp)]; exact h.c1
  · rw [World.cell?_setCell_other _ _ _ _ (by simp)]; exact h.c2
  · rw [World.cell?_setCell_other _ _ _ _ (by simp)]; exact h.c3
theorem but_cell (w : World) (k o : Nat) (v : Value) : But k w (w.setCell ⟨k, o, none⟩ v) := but_cells k o [v] w
/-- one pixel more -/
theorem Gs.app {W0 : World} {ko : Nat} {B : R} {l : List X} {oo : Option Addr} {on om og ooff : Nat} {w : World} (h : Gs W0 ko B l oo on om og ooff w) (hn : on ≤ 1000000) (q : X) (W1 : World) (hW : W1 = w.alloc (.cells #[.int .u8 q.c0, .int .u8 q.c1, .int .u8 q.c2, .int .u8 q.c3] 28)) (x : Value) (hx : x = .slice (some ⟨w.heap.size, 0, none⟩) 1 1) :
    ∃ b' off', Fine Try.prog #[24, 24] 24 W1 (.slice oo on om) x (on + 1) ∧
      (apW Try.prog #[24, 24] 24 W1 (.slice oo on om) x).cell? ⟨ko, 4, none⟩ = some (.slice oo on om) ∧ (apW Try.prog #[24, 24] 24 W1 (.slice oo on om) x).frozen? ⟨ko, 4, none⟩ = false ∧
      Gs W0 ko B (l ++ [q]) (apA Try.prog #[24, 24] 24 W1 (.slice oo on om) x) (on + 1) (apC Try.prog #[24, 24] 24 W1 (.slice oo on om) x) b' off' ((apW Try.prog #[24, 24] 24 W1 (.slice oo on om) x).setCell ⟨ko, 4, none⟩ (.slice (apA Try.prog #[24, 24] 24 W1 (.slice oo on om) x) (on + 1) (apC Try.prog #[24, 24] 24 W1 (.slice oo on om) x))) := by
  subst hW
  subst hx
  have hlt := h.lt
  obtain ⟨b', off', hA⟩ := app_px h.x hlt hn q
  have hb := hA.below
  have h1 := h.below ((Below.refl _ _).alloc (Nat.le_refl _) (.cells #[.int .u8 q.c0, .int .u8 q.c1, .int .u8 q.c2, .int .u8 q.c3] 28))
  have h5 := has5_low h1.o hb (Nat.lt_succ_self _)
  refine ⟨b', off', hA.fine, h5.c4, h5.fz 4, has5_slice h5 _ _ _, ?_, ?_⟩
  · have hx := ox_app hA.own
    exact hx.but (but_cell _ ko 4 _) (fun hc => by have := (hx.new hc).1; omega)
  · exact (h1.low.trans (hb.mono (Nat.le_succ _))).trans ((Below.refl _ _).setCell (p := ⟨ko, 4, none⟩) (Nat.le_refl _) _)
end Go.Proofs.Ytfgfgfmimejpdaa
