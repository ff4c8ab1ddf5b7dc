/- Sums of pixels in memory: counted up and down, and their means: contracts. -/
import Derived.Test.YtfgfgfmimejpdaaGrows
import Derived.Test.YtfgfgfmimejpdaaBlurNum
import Derived.Deep.LoopGhost
import Derived.Deep.Light
namespace Go.Proofs.Ytfgfgfmimejpdaa
open Num Go.RowKit
set_option linter.unusedVariables false
set_option linter.unusedSimpArgs false

/-- of the block g, m cells from o on are written, no others; other blocks stay -/
structure Ch (g o m : Nat) (w w' : World) : Prop where
  but : But g w w'
  out : ∀ j, j < o ∨ o + m ≤ j → w'.cell? ⟨g, j, none⟩ = w.cell? ⟨g, j, none⟩
  fz : ∀ j, w'.frozen? ⟨g, j, none⟩ = w.frozen? ⟨g, j, none⟩
theorem Ch.refl (g o m : Nat) (w : World) : Ch g o m w w := ⟨But.refl _ _, fun _ _ => rfl, fun _ => rfl⟩
theorem Ch.trans {g o m : Nat} {x y z : World} (h : Ch g o m x y) (k : Ch g o m y z) : Ch g o m x z :=
  ⟨h.but.trans k.but, fun j hj => (k.out j hj).trans (h.out j hj), fun j => (k.fz j).trans (h.fz j)⟩
theorem Ch.wide {g o m o' m' : Nat} {x y : World} (h : Ch g o m x y) (h1 : o' ≤ o) (h2 : o + m ≤ o' + m') : Ch g o' m' x y :=
  ⟨h.but, fun j hj => h.out j (by omega), h.fz⟩
theorem Ch.of {g o m : Nat} {w w' : World} (hg : g < w.heap.size) (hb : Below w.heap.size w w') : Ch g o m w w' :=
  ⟨But.of hb, fun j _ => World.cell?_of_block (a := ⟨g, j, none⟩) (hb.block g hg), fun j => World.frozen?_of_block (a := ⟨g, j, none⟩) (hb.block g hg)⟩
theorem Ch.cell {g o m : Nat} {w w' : World} (h : Ch g o m w w') {j : Nat} (h1 : o ≤ j) (h2 : j < o + m) (v : Value) : Ch g o m w (w'.setCell ⟨g, j, none⟩ v) := by
  refine h.trans ⟨but_cell w' g j v, fun i hi => ?_, fun i => ?_⟩
  · rw [World.cell?_setCell_other _ _ _ _ (by intro h; injection h; omega)]
  · rw [World.frozen?_setCell]
theorem Ch.to {g o m : Nat} {w w' w'' : World} (h : Ch g o m w w') (hg : g < w.heap.size) (hb : Below w'.heap.size w' w'') : Ch g o m w w'' :=
  h.trans (Ch.of (Nat.lt_of_lt_of_le hg h.but.size) hb)

/-- four sums -/
structure Us (w : World) (k o : Nat) (s : X) : Prop where
  c0 : w.cell? ⟨k, o, none⟩ = some (.int .u32 s.c0)
  c1 : w.cell? ⟨k, o + 1, none⟩ = some (.int .u32 s.c1)
  c2 : w.cell? ⟨k, o + 2, none⟩ = some (.int .u32 s.c2)
  c3 : w.cell? ⟨k, o + 3, none⟩ = some (.int .u32 s.c3)
  fz : ∀ j, w.frozen? ⟨k, j, none⟩ = false
theorem Us.lt {w : World} {k o : Nat} {s : X} (h : Us w k o s) : k < w.heap.size := World.block_lt_of_cell? w ⟨k, o, none⟩ h.c0
theorem Us.block {w w' : World} {k o : Nat} {s : X} (h : Us w k o s) (e : w'.heap[k]? = w.heap[k]?) : Us w' k o s := by
  have hc : ∀ j, w'.cell? ⟨k, j, none⟩ = w.cell? ⟨k, j, none⟩ := fun j => World.cell?_of_block (a := ⟨k, j, none⟩) e
  exact ⟨by rw [hc]; exact h.c0, by rw [hc]; exact h.c1, by rw [hc]; exact h.c2, by rw [hc]; exact h.c3, fun j => by rw [World.frozen?_of_block (a := ⟨k, j, none⟩) e]; exact h.fz j⟩
theorem Us.below {w w' : World} {k o : Nat} {s : X} (h : Us w k o s) (hb : Below w.heap.size w w') : Us w' k o s := h.block (hb.block k h.lt)
theorem Us.but {g : Nat} {w w' : World} {k o : Nat} {s : X} (h : Us w k o s) (hb : But g w w') (hg : k ≠ g) : Us w' k o s := h.block (hb.block k h.lt hg)
theorem Us.ch {w w' : World} {k o o' m : Nat} {s : X} (h : Us w k o s) (hc : Ch k o' m w w') (hd : o + 4 ≤ o' ∨ o' + m ≤ o) : Us w' k o s :=
  ⟨by rw [hc.out _ (by omega)]; exact h.c0, by rw [hc.out _ (by omega)]; exact h.c1, by rw [hc.out _ (by omega)]; exact h.c2, by rw [hc.out _ (by omega)]; exact h.c3, fun j => by rw [hc.fz]; exact h.fz j⟩
theorem Us.set0 {w : World} {k o : Nat} {s : X} (h : Us w k o s) (v : Int) : Us (w.setCell ⟨k, o, none⟩ (.int .u32 v)) k o ⟨v, s.c1, s.c2, s.c3⟩ := by
  refine ⟨World.cell?_setCell_same _ _ _ h.c0, ?_, ?_, ?_, fun j => by rw [World.frozen?_setCell]; exact h.fz j⟩
  · rw [World.cell?_setCell_other _ _ _ _ (by intro h; injection h; omega)]; exact h.c1
  · rw [World.cell?_setCell_other _ _ _ _ (by intro h; injection h; omega)]; exact h.c2
  · rw [World.cell?_setCell_other _ _ _ _ (by intro h; injection h; omega)]; exact h.c3
theorem Us.set1 {w : World} {k o : Nat} {s : X} (h : Us w k o s) (v : Int) : Us (w.setCell ⟨k, o + 1, none⟩ (.int .u32 v)) k o ⟨s.c0, v, s.c2, s.c3⟩ := by
  refine ⟨?_, World.cell?_setCell_same _ _ _ h.c1, ?_, ?_, fun j => by rw [World.frozen?_setCell]; exact h.fz j⟩
  · rw [World.cell?_setCell_other _ _ _ _ (by intro h; injection h; omega)]; exact h.c0
  · rw [World.cell?_setCell_other _ _ _ _ (by intro h; injection h; omega)]; exact h.c2
  · rw [World.cell?_setCell_other _ _ _ _ (by intro h; injection h; omega)]; exact h.c3
theorem Us.set2 {w : World} {k o : Nat} {s : X} (h : Us w k o s) (v : Int) : Us (w.setCell ⟨k, o + 2, none⟩ (.int .u32 v)) k o ⟨s.c0, s.c1, v, s.c3⟩ := by
  refine ⟨?_, ?_, World.cell?_setCell_same _ _ _ h.c2, ?_, fun j => by rw [World.frozen?_setCell]; exact h.fz j⟩
  · rw [World.cell?_setCell_other _ _ _ _ (by intro h; injection h; omega)]; exact h.c0
  · rw [World.cell?_setCell_other _ _ _ _ (by intro h; injection h; omega)]; exact h.c1
  · rw [World.cell?_setCell_other _ _ _ _ (by intro h; injection h; omega)]; exact h.c3
theorem Us.set3 {w : World} {k o : Nat} {s : X} (h : Us w k o s) (v : Int) : Us (w.setCell ⟨k, o + 3, none⟩ (.int .u32 v)) k o ⟨s.c0, s.c1, s.c2, v⟩ := by
  refine ⟨?_, ?_, ?_, World.cell?_setCell_same _ _ _ h.c3, fun j => by rw [World.frozen?_setCell]; exact h.fz j⟩
  · rw [World.cell?_setCell_other _ _ _ _ (by intro h; injection h; omega)]; exact h.c0
  · rw [World.cell?_setCell_other _ _ _ _ (by intro h; injection h; omega)]; exact h.c1
  · rw [World.cell?_setCell_other _ _ _ _ (by intro h; injection h; omega)]; exact h.c2

/-- the first i values counted -/
def partX (i : Nat) (s t : X) : X := ⟨if 0 < i then t.c0 else s.c0, if 1 < i then t.c1 else s.c1, if 2 < i then t.c2 else s.c2, if 3 < i then t.c3 else s.c3⟩
theorem w32 {n : Int} (h : 0 ≤ n ∧ n ≤ 4294967295) : IntKind.u32.wrap n = n := by rw [IntKind.wrap_u32]; omega

theorem index0 (x y z u : Int) (w : World) : (Instr.index 28 (.agg #[.int .u8 x, .int .u8 y, .int .u8 z, .int .u8 u]) (.int .i64 0)).run Try.prog w = .ok (.int .u8 x) w := by
  unfold Instr.index
  simp only [Sem.run_bind, run_underlying Try.underlying28, Result.andThen_ok]
  go_simp
theorem index1 (x y z u : Int) (w : World) : (Instr.index 28 (.agg #[.int .u8 x, .int .u8 y, .int .u8 z, .int .u8 u]) (.int .i64 1)).run Try.prog w = .ok (.int .u8 y) w := by
  unfold Instr.index
  simp only [Sem.run_bind, run_underlying Try.underlying28, Result.andThen_ok]
  go_simp
theorem index2 (x y z u : Int) (w : World) : (Instr.index 28 (.agg #[.int .u8 x, .int .u8 y, .int .u8 z, .int .u8 u]) (.int .i64 2)).run Try.prog w = .ok (.int .u8 z) w := by
  unfold Instr.index
  simp only [Sem.run_bind, run_underlying Try.underlying28, Result.andThen_ok]
  go_simp
theorem index3 (x y z u : Int) (w : World) : (Instr.index 28 (.agg #[.int .u8 x, .int .u8 y, .int .u8 z, .int .u8 u]) (.int .i64 3)).run Try.prog w = .ok (.int .u8 u) w := by
  unfold Instr.index
  simp only [Sem.run_bind, run_underlying Try.underlying28, Result.andThen_ok]
  go_simp

set_option maxRecDepth 100000 in
set_option maxHeartbeats 1000000 in
theorem add_any (k o : Nat) (s p : X) (w : World) (h : Us w k o s) (hs : upX 1000000 (addX s p)) (hp : byteX p) :
    Calls Try.prog 94 #[.pointer (some ⟨k, o, none⟩), pxV p] w fun e w' => e = .returned (.tuple #[]) ∧ Us w' k o (addX s p) ∧ Ch k o 4 w w' := by
  have i0 := index0
  have i1 := index1
  have i2 := index2
  have i3 := index3
  obtain ⟨⟨a0, a1⟩, ⟨a2, a3⟩, ⟨a4, a5⟩, a6, a7⟩ := hs
  obtain ⟨⟨b0, b1⟩, ⟨b2, b3⟩, ⟨b4, b5⟩, b6, b7⟩ := hp
  unfold addX at a0 a1 a2 a3 a4 a5 a6 a7
  dsimp only at a0 a1 a2 a3 a4 a5 a6 a7
  have w0 : IntKind.u32.wrap p.c0 = p.c0 := w32 (by omega)
  have w1 : IntKind.u32.wrap p.c1 = p.c1 := w32 (by omega)
  have w2 : IntKind.u32.wrap p.c2 = p.c2 := w32 (by omega)
  have w3 : IntKind.u32.wrap p.c3 = p.c3 := w32 (by omega)
  have v0 : IntKind.u32.wrap (s.c0 + p.c0) = s.c0 + p.c0 := w32 (by omega)
  have v1 : IntKind.u32.wrap (s.c1 + p.c1) = s.c1 + p.c1 := w32 (by omega)
  have v2 : IntKind.u32.wrap (s.c2 + p.c2) = s.c2 + p.c2 := w32 (by omega)
  have v3 : IntKind.u32.wrap (s.c3 + p.c3) = s.c3 + p.c3 := w32 (by omega)
  clear a0 a1 a2 a3 a4 a5 a6 a7 b0 b1 b2 b3 b4 b5 b6 b7
  have hlt := h.lt
  have HU : Hid (Us (w.alloc (.cells #[.int .u8 p.c0, .int .u8 p.c1, .int .u8 p.c2, .int .u8 p.c3] 28)) k o (partX 0 s (addX s p)) ∧ Ch k o 4 w (w.alloc (.cells #[.int .u8 p.c0, .int .u8 p.c1, .int .u8 p.c2, .int .u8 p.c3] 28))) :=
    ⟨h.below ((Below.refl _ _).alloc (Nat.le_refl _) _), Ch.of hlt ((Below.refl _ _).alloc (Nat.le_refl _) _)⟩
  clear h
  go_enter Try.func94, Try.ntmps94
  go_wp2
  go_loopg [7] 4 (fun g v7 wr => ∃ i : Nat, i ≤ 4 ∧ g = 4 - i ∧ v7 = .int .i64 i ∧ Us wr k o (partX i s (addX s p)) ∧ Ch k o 4 w wr)
  case atStart => exact ⟨0, Nat.zero_le _, rfl, rfl, HU.out.1, HU.out.2⟩
  case round =>
    clear HU
    obtain ⟨i, hi, rfl, rfl, hU, hC⟩ := hrel
    have HC := hid hC
    clear hC
    obtain rfl | rfl | rfl | rfl | rfl : i = 0 ∨ i = 1 ∨ i = 2 ∨ i = 3 ∨ i = 4 := by omega
    · have HU : Hid (Us wr k o ⟨s.c0, s.c1, s.c2, s.c3⟩) := hU
      obtain ⟨c0, c1, c2, c3, cf⟩ := HU.out
      clear hU
      go_wp2
      go_region
      all_goals
        go_wp2
        go_roundg (4 - 1)
        case measure => decide
        case rel => exact ⟨1, by decide, rfl, rfl, ((HU.out.below (below_drewN (Below.refl _ _) _)).set0 (s.c0 + p.c0)), (HC.out.to hlt (below_drewN (Below.refl _ _) _)).cell (by omega) (by omega) _⟩
    · have HU : Hid (Us wr k o ⟨s.c0 + p.c0, s.c1, s.c2, s.c3⟩) := hU
      obtain ⟨c0, c1, c2, c3, cf⟩ := HU.out
      clear hU
      go_wp2
      go_region
      all_goals
        go_wp2
        go_roundg (4 - 2)
        case measure => decide
        case rel => exact ⟨2, by decide, rfl, rfl, ((HU.out.below (below_drewN (Below.refl _ _) _)).set1 (s.c1 + p.c1)), (HC.out.to hlt (below_drewN (Below.refl _ _) _)).cell (by omega) (by omega) _⟩
    · have HU : Hid (Us wr k o ⟨s.c0 + p.c0, s.c1 + p.c1, s.c2, s.c3⟩) := hU
      obtain ⟨c0, c1, c2, c3, cf⟩ := HU.out
      clear hU
      go_wp2
      go_region
      all_goals
        go_wp2
        go_roundg (4 - 3)
        case measure => decide
        case rel => exact ⟨3, by decide, rfl, rfl, ((HU.out.below (below_drewN (Below.refl _ _) _)).set2 (s.c2 + p.c2)), (HC.out.to hlt (below_drewN (Below.refl _ _) _)).cell (by omega) (by omega) _⟩
    · have HU : Hid (Us wr k o ⟨s.c0 + p.c0, s.c1 + p.c1, s.c2 + p.c2, s.c3⟩) := hU
      obtain ⟨c0, c1, c2, c3, cf⟩ := HU.out
      clear hU
      go_wp2
      go_region
      all_goals
        go_wp2
        go_roundg (4 - 4)
        case measure => decide
        case rel => exact ⟨4, by decide, rfl, rfl, ((HU.out.below (below_drewN (Below.refl _ _) _)).set3 (s.c3 + p.c3)), (HC.out.to hlt (below_drewN (Below.refl _ _) _)).cell (by omega) (by omega) _⟩
    · have HU : Hid (Us wr k o (addX s p)) := hU
      clear hU
      go_wp2
      exact bodyPost_end (v := .tuple #[]) (by simp [results, Try.results94, go_sem]) rfl ⟨rfl, HU.out, HC.out⟩

set_option maxRecDepth 100000 in
set_option maxHeartbeats 1000000 in
theorem take_any (k o : Nat) (s p : X) (w : World) (h : Us w k o s) (hs : upX 1000000 (subX s p)) (hp : byteX p) :
    Calls Try.prog 96 #[.pointer (some ⟨k, o, none⟩), pxV p] w fun e w' => e = .returned (.tuple #[]) ∧ Us w' k o (subX s p) ∧ Ch k o 4 w w' := by
  have i0 := index0
  have i1 := index1
  have i2 := index2
  have i3 := index3
  obtain ⟨⟨a0, a1⟩, ⟨a2, a3⟩, ⟨a4, a5⟩, a6, a7⟩ := hs
  obtain ⟨⟨b0, b1⟩, ⟨b2, b3⟩, ⟨b4, b5⟩, b6, b7⟩ := hp
  unfold subX at a0 a1 a2 a3 a4 a5 a6 a7
  dsimp only at a0 a1 a2 a3 a4 a5 a6 a7
  have w0 : IntKind.u32.wrap p.c0 = p.c0 := w32 (by omega)
  have w1 : IntKind.u32.wrap p.c1 = p.c1 := w32 (by omega)
  have w2 : IntKind.u32.wrap p.c2 = p.c2 := w32 (by omega)
  have w3 : IntKind.u32.wrap p.c3 = p.c3 := w32 (by omega)
  have v0 : IntKind.u32.wrap (s.c0 - p.c0) = s.c0 - p.c0 := w32 (by omega)
  have v1 : IntKind.u32.wrap (s.c1 - p.c1) = s.c1 - p.c1 := w32 (by omega)
  have v2 : IntKind.u32.wrap (s.c2 - p.c2) = s.c2 - p.c2 := w32 (by omega)
  have v3 : IntKind.u32.wrap (s.c3 - p.c3) = s.c3 - p.c3 := w32 (by omega)
  clear a0 a1 a2 a3 a4 a5 a6 a7 b0 b1 b2 b3 b4 b5 b6 b7
  have hlt := h.lt
  have HU : Hid (Us (w.alloc (.cells #[.int .u8 p.c0, .int .u8 p.c1, .int .u8 p.c2, .int .u8 p.c3] 28)) k o (partX 0 s (subX s p)) ∧ Ch k o 4 w (w.alloc (.cells #[.int .u8 p.c0, .int .u8 p.c1, .int .u8 p.c2, .int .u8 p.c3] 28))) :=
    ⟨h.below ((Below.refl _ _).alloc (Nat.le_refl _) _), Ch.of hlt ((Below.refl _ _).alloc (Nat.le_refl _) _)⟩
  clear h
  go_enter Try.func96, Try.ntmps96
  go_wp2
  go_loopg [7] 4 (fun g v7 wr => ∃ i : Nat, i ≤ 4 ∧ g = 4 - i ∧ v7 = .int .i64 i ∧ Us wr k o (partX i s (subX s p)) ∧ Ch k o 4 w wr)
  case atStart => exact ⟨0, Nat.zero_le _, rfl, rfl, HU.out.1, HU.out.2⟩
  case round =>
    clear HU
    obtain ⟨i, hi, rfl, rfl, hU, hC⟩ := hrel
    have HC := hid hC
    clear hC
    obtain rfl | rfl | rfl | rfl | rfl : i = 0 ∨ i = 1 ∨ i = 2 ∨ i = 3 ∨ i = 4 := by omega
    · have HU : Hid (Us wr k o ⟨s.c0, s.c1, s.c2, s.c3⟩) := hU
      obtain ⟨c0, c1, c2, c3, cf⟩ := HU.out
      clear hU
      go_wp2
      go_region
      all_goals
        go_wp2
        go_roundg (4 - 1)
        case measure => decide
        case rel => exact ⟨1, by decide, rfl, rfl, ((HU.out.below (below_drewN (Below.refl _ _) _)).set0 (s.c0 - p.c0)), (HC.out.to hlt (below_drewN (Below.refl _ _) _)).cell (by omega) (by omega) _⟩
    · have HU : Hid (Us wr k o ⟨s.c0 - p.c0, s.c1, s.c2, s.c3⟩) := hU
      obtain ⟨c0, c1, c2, c3, cf⟩ := HU.out
      clear hU
      go_wp2
      go_region
      all_goals
        go_wp2
        go_roundg (4 - 2)
        case measure => decide
        case rel => exact ⟨2, by decide, rfl, rfl, ((HU.out.below (below_drewN (Below.refl _ _) _)).set1 (s.c1 - p.c1)), (HC.out.to hlt (below_drewN (Below.refl _ _) _)).cell (by omega) (by omega) _⟩
    · have HU : Hid (Us wr k o ⟨s.c0 - p.c0, s.c1 - p.c1, s.c2, s.c3⟩) := hU
      obtain ⟨c0, c1, c2, c3, cf⟩ := HU.out
      clear hU
      go_wp2
      go_region
      all_goals
        go_wp2
        go_roundg (4 - 3)
        case measure => decide
        case rel => exact ⟨3, by decide, rfl, rfl, ((HU.out.below (below_drewN (Below.refl _ _) _)).set2 (s.c2 - p.c2)), (HC.out.to hlt (below_drewN (Below.refl _ _) _)).cell (by omega) (by omega) _⟩
    · have HU : Hid (Us wr k o ⟨s.c0 - p.c0, s.c1 - p.c1, s.c2 - p.c2, s.c3⟩) := hU
      obtain ⟨c0, c1, c2, c3, cf⟩ := HU.out
      clear hU
      go_wp2
      go_region
      all_goals
        go_wp2
        go_roundg (4 - 4)
        case measure => decide
        case rel => exact ⟨4, by decide, rfl, rfl, ((HU.out.below (below_drewN (Below.refl _ _) _)).set3 (s.c3 - p.c3)), (HC.out.to hlt (below_drewN (Below.refl _ _) _)).cell (by omega) (by omega) _⟩
    · have HU : Hid (Us wr k o (subX s p)) := hU
      clear hU
      go_wp2
      exact bodyPost_end (v := .tuple #[]) (by simp [results, Try.results96, go_sem]) rfl ⟨rfl, HU.out, HC.out⟩
end Go.Proofs.Ytfgfgfmimejpdaa
