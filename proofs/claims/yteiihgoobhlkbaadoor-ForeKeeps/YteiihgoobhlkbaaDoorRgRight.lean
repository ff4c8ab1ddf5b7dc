/- Whether a list is a right region: the contract. -/
import Derived.Test.YteiihgoobhlkbaaDoorRgOf
import Derived.Test.YteiihgoobhlkbaaDoorRgMemA
import Derived.Test.YteiihgoobhlkbaaDoorRgSets
import Derived.Test.YteiihgoobhlkbaaDoorRgOfs
import Derived.Deep.RegionHeld3
namespace Go.Proofs.YteiihgoobhlkbaaDoor.Rg
open Num Go.RowKit
set_option linter.unusedVariables false
set_option linter.unusedSimpArgs false
attribute [local go_sem ↓] eqR

def allR : R := ⟨-4398046511104, -4398046511104, 4398046511104, 4398046511104⟩
def withinB (r : R) : Bool := decide (meet r allR = r)

/-- two rectangles' cells, and that all that was there stays -/
abbrev S8 (w : World) (k m : Nat) (a b c d p q r s : Int) (w' : World) : Prop := (w'.cell? ⟨k, 0, none⟩ = some (.int .i64 a) ∧ w'.cell? ⟨k, 1, none⟩ = some (.int .i64 b) ∧ w'.cell? ⟨k, 2, none⟩ = some (.int .i64 c) ∧ w'.cell? ⟨k, 3, none⟩ = some (.int .i64 d) ∧ w'.cell? ⟨m, 0, none⟩ = some (.int .i64 p) ∧ w'.cell? ⟨m, 1, none⟩ = some (.int .i64 q) ∧ w'.cell? ⟨m, 2, none⟩ = some (.int .i64 r) ∧ w'.cell? ⟨m, 3, none⟩ = some (.int .i64 s)) ∧ Below w.heap.size w w'
theorem s8_below {w : World} {k m : Nat} {a b c d p q r s : Int} {w1 w2 : World} (h : S8 w k m a b c d p q r s w1) (hb : Below w1.heap.size w1 w2) : S8 w k m a b c d p q r s w2 := by
  obtain ⟨⟨c0, c1, c2, c3, d0, d1, d2, d3⟩, hB⟩ := h
  have hk : k < w1.heap.size := World.block_lt_of_cell? w1 ⟨k, 0, none⟩ c0
  have hm : m < w1.heap.size := World.block_lt_of_cell? w1 ⟨m, 0, none⟩ d0
  exact ⟨⟨by rw [hb.cell (p := ⟨k, 0, none⟩) hk]; exact c0, by rw [hb.cell (p := ⟨k, 1, none⟩) hk]; exact c1, by rw [hb.cell (p := ⟨k, 2, none⟩) hk]; exact c2, by rw [hb.cell (p := ⟨k, 3, none⟩) hk]; exact c3, by rw [hb.cell (p := ⟨m, 0, none⟩) hm]; exact d0, by rw [hb.cell (p := ⟨m, 1, none⟩) hm]; exact d1, by rw [hb.cell (p := ⟨m, 2, none⟩) hm]; exact d2, by rw [hb.cell (p := ⟨m, 3, none⟩) hm]; exact d3⟩, hB.trans (hb.mono hB.size)⟩
theorem s8_drew {w : World} {k m : Nat} {a b c d p q r s : Int} {w1 : World} (h : S8 w k m a b c d p q r s w1) : S8 w k m a b c d p q r s w1.drew := s8_below h (Below.refl _ _).drew

def partB (y1 : Int) : R → List R → Bool
  | prev, [] => true
  | prev, r :: t => if r.y1 = y1 ∧ prev.x1 < r.x0 then partB y1 r t else false
def partedB : List R → Bool
  | [] => true
  | r :: t => partB r.y1 r t
theorem part_step {y1 : Int} {l : List R} {k : Nat} {p r : R} (hr : l[k + 1]? = some r) : partB y1 p (l.drop (k + 1)) = if r.y1 = y1 ∧ p.x1 < r.x0 then partB y1 r (l.drop (k + 2)) else false := by
  obtain ⟨h1, rfl⟩ := List.getElem?_eq_some_iff.1 hr
  rw [List.drop_eq_getElem_cons h1]
  rfl

def followsB (above band : List R) : Bool := match above, band with
  | [], _ => true
  | _ :: _, [] => true
  | a :: l, b :: m => decide (a.y1 ≤ b.y0) && !seamB (a :: l) (b :: m)
def bandsB : Nat → List R → List R → Bool
  | 0, _, _ => true
  | k + 1, above, [] => true
  | k + 1, above, r :: t => if partedB (firstL (r :: t)) = true ∧ followsB above (firstL (r :: t)) = true then bandsB k (firstL (r :: t)) ((r :: t).drop (firstL (r :: t)).length) else false
def rightG (l : List R) : Bool := (l.all fun r => !empB r && withinB r) && bandsB (l.length + 1) [] l
abbrev S4 (w : World) (k : Nat) (a b c d : Int) (w' : World) : Prop := (w'.cell? ⟨k, 0, none⟩ = some (.int .i64 a) ∧ w'.cell? ⟨k, 1, none⟩ = some (.int .i64 b) ∧ w'.cell? ⟨k, 2, none⟩ = some (.int .i64 c) ∧ w'.cell? ⟨k, 3, none⟩ = some (.int .i64 d)) ∧ Below w.heap.size w w'
theorem s4_below {w : World} {k : Nat} {a b c d : Int} {w1 w2 : World} (h : S4 w k a b c d w1) (hb : Below w1.heap.size w1 w2) : S4 w k a b c d w2 := by
  obtain ⟨⟨c0, c1, c2, c3⟩, hB⟩ := h
  have hk : k < w1.heap.size := World.block_lt_of_cell? w1 ⟨k, 0, none⟩ c0
  exact ⟨⟨by rw [hb.cell (p := ⟨k, 0, none⟩) hk]; exact c0, by rw [hb.cell (p := ⟨k, 1, none⟩) hk]; exact c1, by rw [hb.cell (p := ⟨k, 2, none⟩) hk]; exact c2, by rw [hb.cell (p := ⟨k, 3, none⟩) hk]; exact c3⟩, hB.trans (hb.mono hB.size)⟩
theorem s4_drew {w : World} {k : Nat} {a b c d : Int} {w1 : World} (h : S4 w k a b c d w1) : S4 w k a b c d w1.drew := s4_below h (Below.refl _ _).drew
theorem first_ne (r : R) (t : List R) : firstL (r :: t) ≠ [] := by simp [firstL]

end Go.Proofs.YteiihgoobhlkbaaDoor.Rg
