/- Each rectangle of a region changed, and the region of what comes: contracts. -/
import Derived.Test.YteiihgoobhlkbaaDoorRgOfs
import Derived.Test.YteiihgoobhlkbaaDoorRgMono
import Derived.Laws.MakeOwn
namespace Go.Proofs.YteiihgoobhlkbaaDoor.Rg
open Num Go.RowKit
set_option linter.unusedVariables false
set_option linter.unusedSimpArgs false


def zeros (n : Nat) : List R := List.replicate n ⟨0, 0, 0, 0⟩
def zeroCs (n : Nat) : Array Value := (flat (zeros n)).toArray

theorem zeros_flat (n : Nat) : flat (zeros n) = List.replicate (n * 4) (Value.int .i64 0) := by
  induction n with
  | zero => rfl
  | succ n ih =>
    show flat (⟨0, 0, 0, 0⟩ :: zeros n) = _
    rw [flat_cons, ih, show (n + 1) * 4 = n * 4 + 1 + 1 + 1 + 1 by omega]
    rfl
theorem made_zero (n : Nat) : madeCells (#[.int .i64 0, .int .i64 0, .int .i64 0, .int .i64 0] : Array Value) (n * 4) = zeroCs n := by
  have e4 : ∀ j : Nat, (#[Value.int .i64 0, .int .i64 0, .int .i64 0, .int .i64 0] : Array Value)[j % 4]! = Value.int .i64 0 := by
    intro j
    have h4 : j % 4 < 4 := Nat.mod_lt _ (by omega)
    generalize j % 4 = m at h4
    match m, h4 with
    | 0, _ => rfl
    | 1, _ => rfl
    | 2, _ => rfl
    | 3, _ => rfl
  unfold zeroCs madeCells
  rw [zeros_flat]
  apply Array.ext
  · simp
  · intro j h1 h2
    rw [Array.getElem_map]
    simp only [Array.getElem_range, List.getElem_toArray, List.getElem_replicate]
    exact e4 j

set_option maxRecDepth 100000 in
theorem run_zeros (n : Nat) (hn : n ≤ 1000000000000) (w : World) : (Instr.makeSlice 25 (.int .i64 (n : Int)) (.int .i64 (n : Int))).run Tryd.prog w = .ok (.slice (some ⟨w.heap.size, 0, none⟩) n n) (w.alloc (.cells (zeroCs n) 34)) := by
  obtain ⟨i, hi, hz0, hz1, hz2⟩ := info_parts info34
  have := run_make (P := Tryd.prog) w 25 34 i _ Tryd.underlying25 hi hz0 .i64 .i64 n n (by omega) (Int.le_refl _) (by rw [hz2]; omega) (by omega)
  rw [hz1] at this
  simp only [Int.toNat_natCast] at this
  rw [this]
  congr 3
  exact made_zero n

theorem flat_set4 : ∀ {l : List R} {j : Nat} (s : R), j < l.length → flat (l.set j s) = ((((flat l).set (j * 4) (.int .i64 s.x0)).set (j * 4 + 1) (.int .i64 s.y0)).set (j * 4 + 2) (.int .i64 s.x1)).set (j * 4 + 3) (.int .i64 s.y1)
  | [], j, s, h => by simp at h
  | a :: l, 0, s, h => by simp [flat_cons]
  | a :: l, j + 1, s, h => by
    have ih := flat_set4 (l := l) (j := j) s (by simpa using h)
    rw [List.set_cons_succ, flat_cons, flat_cons, ih]
    rw [show (j + 1) * 4 = j * 4 + 1 + 1 + 1 + 1 by omega]
    simp [List.set_cons_succ, show j * 4 + 1 + 1 + 1 + 1 + 1 = (j * 4 + 1) + 1 + 1 + 1 + 1 by omega, show j * 4 + 1 + 1 + 1 + 1 + 2 = (j * 4 + 2) + 1 + 1 + 1 + 1 by omega, show j * 4 + 1 + 1 + 1 + 1 + 3 = (j * 4 + 3) + 1 + 1 + 1 + 1 by omega]
theorem ow_set4 {B : Nat} {w : World} {ao : Option Addr} {n c b off : Nat} {l : List R} (h : Ow B w ao n c b off l) {j : Nat} (hj : j < l.length) (s : R) :
    Ow B ((((w.setCell ⟨b, off + j * 4, none⟩ (.int .i64 s.x0)).setCell ⟨b, off + j * 4 + 1, none⟩ (.int .i64 s.y0)).setCell ⟨b, off + j * 4 + 2, none⟩ (.int .i64 s.x1)).setCell ⟨b, off + j * 4 + 3, none⟩ (.int .i64 s.y1)) ao n c b off (l.set j s) := by
  have h0 := oz_set h (p := j * 4) (by rw [flat_len]; omega) (.int .i64 s.x0)
  have h1 := oz_set h0 (p := j * 4 + 1) (by rw [List.length_set, flat_len]; omega) (.int .i64 s.y0)
  have h2 := oz_set h1 (p := j * 4 + 2) (by rw [List.length_set, List.length_set, flat_len]; omega) (.int .i64 s.x1)
  have h3 := oz_set h2 (p := j * 4 + 3) (by rw [List.length_set, List.length_set, List.length_set, flat_len]; omega) (.int .i64 s.y1)
  rw [← flat_set4 s hj] at h3
  simpa only [← Nat.add_assoc] using h3
theorem below_set4 {B : Nat} {W w : World} (h : Below B W w) {b : Nat} (hb : B ≤ b) (p q r s : Nat) (u0 u1 u2 u3 : Value) : Below B W ((((w.setCell ⟨b, p, none⟩ u0).setCell ⟨b, q, none⟩ u1).setCell ⟨b, r, none⟩ u2).setCell ⟨b, s, none⟩ u3) :=
  (((h.setCell (p := ⟨b, p, none⟩) hb _).setCell (p := ⟨b, q, none⟩) hb _).setCell (p := ⟨b, r, none⟩) hb _).setCell (p := ⟨b, s, none⟩) hb _
/-- the four cells of a place of a slice of one's own -/
theorem ow_four {B : Nat} {w : World} {ao : Option Addr} {n c b off : Nat} {l : List R} (h : Ow B w ao n c b off l) {j : Nat} (hj : j < l.length) :
    ao = some ⟨b, off, none⟩ ∧ B ≤ b ∧ b < w.heap.size ∧ ∃ r : R, w.cell? ⟨b, off + j * 4, none⟩ = some (.int .i64 r.x0) ∧ w.cell? ⟨b, off + j * 4 + 1, none⟩ = some (.int .i64 r.y0) ∧ w.cell? ⟨b, off + j * 4 + 2, none⟩ = some (.int .i64 r.x1) ∧ w.cell? ⟨b, off + j * 4 + 3, none⟩ = some (.int .i64 r.y1) ∧
      w.frozen? ⟨b, off + j * 4, none⟩ = false ∧ w.frozen? ⟨b, off + j * 4 + 1, none⟩ = false ∧ w.frozen? ⟨b, off + j * 4 + 2, none⟩ = false ∧ w.frozen? ⟨b, off + j * 4 + 3, none⟩ = false := by
  obtain ⟨r, hr⟩ : ∃ r, l[j]? = some r := ⟨_, List.getElem?_eq_getElem hj⟩
  obtain ⟨e, g0, g1, g2, g3⟩ := vw_at h.v hr
  exact ⟨e, (ow_at h hr 0 (by omega)).2, World.block_lt_of_cell? _ _ g0, r, g0, g1, g2, g3, (ow_at h hr 0 (by omega)).1, (ow_at h hr 1 (by omega)).1, (ow_at h hr 2 (by omega)).1, (ow_at h hr 3 (by omega)).1⟩

/-- so many are changed, the others not yet -/
def half (g : R → R) (l : List R) (k : Nat) : List R := (l.take k).map g ++ zeros (l.length - k)
theorem half_len (g : R → R) (l : List R) {k : Nat} (hk : k ≤ l.length) : (half g l k).length = l.length := by unfold half zeros; simp; omega
theorem half_zero (g : R → R) (l : List R) : half g l 0 = zeros l.length := by unfold half; simp
theorem half_all (g : R → R) (l : List R) : half g l l.length = l.map g := by unfold half zeros; simp
theorem half_set (g : R → R) {l : List R} {k : Nat} {r : R} (h : l[k]? = some r) : (half g l k).set k (g r) = half g l (k + 1) := by
  obtain ⟨hk, rfl⟩ := List.getElem?_eq_some_iff.1 h
  unfold half
  have e : zeros (l.length - k) = ⟨0, 0, 0, 0⟩ :: zeros (l.length - (k + 1)) := by
    unfold zeros
    rw [show l.length - k = (l.length - (k + 1)) + 1 by omega, List.replicate_succ]
  rw [e, List.set_append_right _ _ (by simp; omega), List.take_succ_eq_append_getElem hk, List.map_append]
  have : k - ((l.take k).map g).length = 0 := by simp; omega
  rw [this]
  simp
end Go.Proofs.YteiihgoobhlkbaaDoor.Rg
