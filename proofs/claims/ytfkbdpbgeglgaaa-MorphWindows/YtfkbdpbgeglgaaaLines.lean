/- Lines of a buffer: where their pixels are: contracts. -/
import Derived.Test.YtfkbdpbgeglgaaaSight
import Derived.Test.YtfkbdpbgeglgaaaWins
import Derived.Deep.RegionHeld3
namespace Go.Proofs.Ytfkbdpbgeglgaaa
open Num Go.RowKit
set_option linter.unusedVariables false
set_option linter.unusedSimpArgs false

set_option maxHeartbeats 1000000 in
theorem at_any (g o n c i st s : Nat) (cnt : Int) (w : World) (hs : i * st = s) (hsn : s < n) (hn : n ≤ 1000000) :
    Calls Try.prog 53 #[.agg #[.slice (some ⟨g, o, none⟩) n c, .int .i64 (st : Int), .int .i64 cnt], .int .i64 (i : Int)] w fun e w' => e = .returned (.pointer (some ⟨g, o + s * 4, none⟩)) ∧ Below w.heap.size w w' := by
  have h1 : (i : Int) * (st : Int) = (s : Int) := by rw [← Int.natCast_mul, hs]
  have h2 : (s : Int) < (n : Int) := by omega
  have h3 : (0 : Int) ≤ (s : Int) := by omega
  go_enter Try.func53, Try.ntmps53
  go_wp2
  go_ret
  exact ⟨rfl, by go_grown⟩

set_option maxHeartbeats 1000000 in
theorem index_any (a b c d : Int) (ao : Option Addr) (n m : Nat) (x y : Int) (s q : Nat) (w : World) (ho : Ok ⟨a, b, c, d⟩) (hx : -4398046511104 ≤ x ∧ x ≤ 4398046511104) (hy : -4398046511104 ≤ y ∧ y ≤ 4398046511104)
    (hs : (y - b) * (c - a) = (s : Int)) (hq : (s : Int) + x - a = (q : Int)) (hsn : s ≤ 1000000) :
    Calls Try.prog 56 #[.agg #[.int .i64 a, .int .i64 b, .int .i64 c, .int .i64 d, .slice ao n m], .int .i64 x, .int .i64 y] w fun e w' => e = .returned (.int .i64 (q : Int)) ∧ Below w.heap.size w w' := by
  obtain ⟨⟨a0, a1⟩, ⟨b0, b1⟩, ⟨c0, c1⟩, d0, d1⟩ := ho
  dsimp only at a0 a1 b0 b1 c0 c1 d0 d1
  obtain ⟨u0, u1⟩ := hx
  obtain ⟨y0, y1⟩ := hy
  go_enter Try.func56, Try.ntmps56
  go_wp2
  go_ret
  exact ⟨rfl, by go_grown⟩

/-- a line's three cells -/
structure L3 (w : World) (k : Nat) (s : Value) (st cnt : Int) : Prop where
  c0 : w.cell? ⟨k, 0, none⟩ = some s
  c1 : w.cell? ⟨k, 1, none⟩ = some (.int .i64 st)
  c2 : w.cell? ⟨k, 2, none⟩ = some (.int .i64 cnt)
  fz : ∀ j, w.frozen? ⟨k, j, none⟩ = false
section
variable {w w' : World} {k : Nat} {s : Value} {st cnt : Int}
theorem L3.lt (h : L3 w k s st cnt) : k < w.heap.size := World.block_lt_of_cell? w ⟨k, 1, none⟩ h.c1
theorem L3.block (h : L3 w k s st cnt) (e : w'.heap[k]? = w.heap[k]?) : L3 w' k s st cnt := by
  have hc : ∀ j, w'.cell? ⟨k, j, none⟩ = w.cell? ⟨k, j, none⟩ := fun j => World.cell?_of_block (a := ⟨k, j, none⟩) e
  exact ⟨by rw [hc]; exact h.c0, by rw [hc]; exact h.c1, by rw [hc]; exact h.c2, fun j => by rw [World.frozen?_of_block (a := ⟨k, j, none⟩) e]; exact h.fz j⟩
theorem L3.below (h : L3 w k s st cnt) (hb : Below w.heap.size w w') : L3 w' k s st cnt := h.block (hb.block k h.lt)
theorem L3.but {g : Nat} (h : L3 w k s st cnt) (hb : But g w w') (hg : k ≠ g) : L3 w' k s st cnt := h.block (hb.block k h.lt hg)
theorem L3.new {W : World} {k : Nat} (hk : k = W.heap.size) (s : Value) (st cnt : Int) (t : TypeId) : L3 (W.alloc (.cells #[s, .int .i64 st, .int .i64 cnt] t)) k s st cnt := by
  subst hk
  exact ⟨World.cell?_alloc_new W _ _ 0, World.cell?_alloc_new W _ _ 1, World.cell?_alloc_new W _ _ 2, fun j => World.frozen?_alloc_new W _ _ j⟩
end
theorem set3 {w : World} {k : Nat} {p0 p1 p2 : Value} (h0 : w.cell? ⟨k, 0, none⟩ = some p0) (h1 : w.cell? ⟨k, 1, none⟩ = some p1) (h2 : w.cell? ⟨k, 2, none⟩ = some p2) (v0 v1 v2 : Value) :
    (((w.setCell ⟨k, 0, none⟩ v0).setCell ⟨k, 1, none⟩ v1).setCell ⟨k, 2, none⟩ v2).cell? ⟨k, 0, none⟩ = some v0 ∧
    (((w.setCell ⟨k, 0, none⟩ v0).setCell ⟨k, 1, none⟩ v1).setCell ⟨k, 2, none⟩ v2).cell? ⟨k, 1, none⟩ = some v1 ∧
    (((w.setCell ⟨k, 0, none⟩ v0).setCell ⟨k, 1, none⟩ v1).setCell ⟨k, 2, none⟩ v2).cell? ⟨k, 2, none⟩ = some v2 := by
  refine ⟨?_, ?_, ?_⟩
  · rw [set_diff (by omega), set_diff (by omega)]
    exact World.cell?_setCell_same _ _ _ h0
  · rw [set_diff (by omega)]
    exact World.cell?_setCell_same _ _ _ (by rw [set_diff (by omega)]; exact h1)
  · exact World.cell?_setCell_same _ _ _ (by rw [set_diff (by omega), set_diff (by omega)]; exact h2)
theorem below_set3 {lo : Nat} {W w : World} (h : Below lo W w) {k : Nat} (hk : lo ≤ k) (v0 v1 v2 : Value) : Below lo W (((w.setCell ⟨k, 0, none⟩ v0).setCell ⟨k, 1, none⟩ v1).setCell ⟨k, 2, none⟩ v2) :=
  ((h.setCell (p := ⟨k, 0, none⟩) hk _).setCell (p := ⟨k, 1, none⟩) hk _).setCell (p := ⟨k, 2, none⟩) hk _

/-- a buffer's cells -/
abbrev S5c (k : Nat) (Q : R) (v : Value) (w' : World) : Prop := w'.cell? ⟨k, 0, none⟩ = some (.int .i64 Q.x0) ∧ w'.cell? ⟨k, 1, none⟩ = some (.int .i64 Q.y0) ∧ w'.cell? ⟨k, 2, none⟩ = some (.int .i64 Q.x1) ∧ w'.cell? ⟨k, 3, none⟩ = some (.int .i64 Q.y1) ∧ w'.cell? ⟨k, 4, none⟩ = some v
theorem s5c_of {k : Nat} {Q : R} {ao : Option Addr} {n c : Nat} {w' : World} (h : Has5 w' k Q ao n c) : S5c k Q (.slice ao n c) w' := ⟨h.c0, h.c1, h.c2, h.c3, h.c4⟩
theorem s5c_below {k : Nat} {Q : R} {v : Value} {w1 w2 : World} (h : S5c k Q v w1) (hb : Below w1.heap.size w1 w2) : S5c k Q v w2 := by
  obtain ⟨c0, c1, c2, c3, c4⟩ := h
  have e1 := fun o => World.cell?_of_block (a := ⟨k, o, none⟩) (hb.block k (World.block_lt_of_cell? w1 ⟨k, 0, none⟩ c0))
  exact ⟨by rw [e1]; exact c0, by rw [e1]; exact c1, by rw [e1]; exact c2, by rw [e1]; exact c3, by rw [e1]; exact c4⟩
theorem s5c_drew {k : Nat} {Q : R} {v : Value} {w1 : World} (h : S5c k Q v w1) : S5c k Q v w1.drew := s5c_below h (Below.refl _ _).drew

theorem s5c_set3 {k k' : Nat} {Q : R} {v : Value} {w1 : World} {v0 v1 v2 : Value} (h : S5c k Q v w1) (hk : k ≠ k') : S5c k Q v (((w1.setCell ⟨k', 0, none⟩ v0).setCell ⟨k', 1, none⟩ v1).setCell ⟨k', 2, none⟩ v2) := by
  obtain ⟨c0, c1, c2, c3, c4⟩ := h
  have hb : But k' w1 (((w1.setCell ⟨k', 0, none⟩ v0).setCell ⟨k', 1, none⟩ v1).setCell ⟨k', 2, none⟩ v2) := but_cells k' 0 [v0, v1, v2] w1
  have e1 := fun o => World.cell?_of_block (a := ⟨k, o, none⟩) (hb.block k (World.block_lt_of_cell? w1 ⟨k, 0, none⟩ c0) hk)
  exact ⟨by rw [e1]; exact c0, by rw [e1]; exact c1, by rw [e1]; exact c2, by rw [e1]; exact c3, by rw [e1]; exact c4⟩

set_option maxRecDepth 100000 in
set_option maxHeartbeats 1000000 in
theorem row_any (B : R) (g off n m : Nat) (x0 x1 y : Int) (s q : Nat) (w : World) (ho : Ok B) (hx0 : -4398046511104 ≤ x0 ∧ x0 ≤ 4398046511104) (hx1 : -4398046511104 ≤ x1 ∧ x1 ≤ 4398046511104) (hy : -4398046511104 ≤ y ∧ y ≤ 4398046511104)
    (hs : (y - B.y0) * (B.x1 - B.x0) = (s : Int)) (hq : (s : Int) + x0 - B.x0 = (q : Int)) (hsn : s ≤ 1000000) (hkn : q < n) (hnm : n ≤ m) (hm : m ≤ maxLen) :
    Calls Try.prog 42 #[.agg #[.int .i64 B.x0, .int .i64 B.y0, .int .i64 B.x1, .int .i64 B.y1, .slice (some ⟨g, off, none⟩) n m], .int .i64 x0, .int .i64 x1, .int .i64 y] w fun e w' => e = .returned (.agg #[.slice (some ⟨g, off + q * 4, none⟩) (n - q) (m - q), .int .i64 1, .int .i64 (x1 - x0)]) ∧ Below w.heap.size w w' := by
  have HO := hid (And.intro ho (And.intro hx0 hy))
  have HQ := hid (And.intro hs hq)
  obtain ⟨u0, u1⟩ := hx0
  obtain ⟨v0, v1⟩ := hx1
  obtain ⟨y0, y1⟩ := hy
  have hw1 : IntKind.i64.wrap (x1 - x0) = x1 - x0 := by rw [IntKind.wrap_i64]; omega
  have z1 : (q : Int) ≤ (n : Int) := by omega
  have z2 : (n : Int) ≤ (m : Int) := by omega
  have z3 : ¬ m = q := by omega
  have z4 : (q : Int) < (n : Int) := by omega
  simp only [maxLen] at hm
  have HM : Hid (∀ w', w' = (w.alloc (.cells #[.int .i64 B.x0, .int .i64 B.y0, .int .i64 B.x1, .int .i64 B.y1, .slice (some ⟨g, off, none⟩) n m] 26)).alloc (.cells #[.slice none 0 0, .int .i64 0, .int .i64 0] 67) → Has5 w' w.heap.size B (some ⟨g, off, none⟩) n m ∧ L3 w' (w.heap.size + 1) (.slice none 0 0) 0 0 ∧ Below w.heap.size w w') := by
    intro w' hw'
    subst hw'
    exact ⟨(Has5.new rfl _ _ _ _ _ _ _ _).alloc _, L3.new (by simp) _ _ _ _, ((Below.refl _ _).alloc (Nat.le_refl _) _).alloc (by simp) _⟩
  clear hs hq ho
  go_enter Try.func42, Try.ntmps42
  go_wp2
  generalize hW0 : (w.alloc (.cells #[.int .i64 B.x0, .int .i64 B.y0, .int .i64 B.x1, .int .i64 B.y1, .slice (some ⟨g, off, none⟩) n m] 26)).alloc (.cells #[.slice none 0 0, .int .i64 0, .int .i64 0] 67) = W0
  obtain ⟨h5, h3, hlow⟩ := HM.out W0 hW0.symm
  have HW := hid (And.intro h5 (And.intro h3 hlow))
  obtain ⟨b0, b1, b2, b3, b4, bf⟩ := h5
  clear hW0 HM h3 hlow
  have hS : S5c w.heap.size B (.slice (some ⟨g, off, none⟩) n m) W0 := ⟨b0, b1, b2, b3, b4⟩
  go_region_held3 (fun w' => w'.cell? ⟨w.heap.size, 0, none⟩ = some (.int .i64 B.x0) ∧ w'.cell? ⟨w.heap.size, 1, none⟩ = some (.int .i64 B.y0) ∧ w'.cell? ⟨w.heap.size, 2, none⟩ = some (.int .i64 B.x1) ∧ w'.cell? ⟨w.heap.size, 3, none⟩ = some (.int .i64 B.y1) ∧ w'.cell? ⟨w.heap.size, 4, none⟩ = some (.slice (some ⟨g, off, none⟩) n m)) (repeat (first | with_reducible assumption | with_reducible refine s5c_drew ?_ | with_reducible refine s5c_set3 ?_ (by omega) | with_reducible refine s5c_below ?_ ‹_›))
    ((first | (go_at_call 56; with_reducible refine Calls.mono (index_any B.x0 B.y0 B.x1 B.y1 (some ⟨g, off, none⟩) n m x0 y s q _ HO.out.1 HO.out.2.1 HO.out.2.2 HQ.out.1 HQ.out.2 hsn) ?_; rintro e w1 ⟨rfl, hb1⟩; have HB1 := hid (Rc.via ((Below.refl W0.heap.size W0).drew) hb1); obtain ⟨r0, r1, r2, rf⟩ := HW.out.2.1.below HB1.out)))
  all_goals
    go_wp2
    obtain ⟨s0, s1, s2⟩ := set3 r0 r1 r2 (.slice (some ⟨g, off + q * 4, none⟩) (n - q) (m - q)) (.int .i64 1) (.int .i64 (x1 - x0))
    refine bodyPost_ret (v := .agg #[.slice (some ⟨g, off + q * 4, none⟩) (n - q) (m - q), .int .i64 1, .int .i64 (x1 - x0)]) (by simp [results, Try.results42, go_sem, s0, s1, s2]) rfl ⟨rfl, ?_⟩
    exact below_set3 (Rc.via HW.out.2.2 HB1.out) (by omega) _ _ _

set_option maxRecDepth 100000 in
set_option maxHeartbeats 1000000 in
theorem column_any (B : R) (g off n m : Nat) (x y0 y1 : Int) (s q : Nat) (w : World) (ho : Ok B) (hx0 : -4398046511104 ≤ x ∧ x ≤ 4398046511104) (hy : -4398046511104 ≤ y0 ∧ y0 ≤ 4398046511104) (hy1 : -4398046511104 ≤ y1 ∧ y1 ≤ 4398046511104)
    (hs : (y0 - B.y0) * (B.x1 - B.x0) = (s : Int)) (hq : (s : Int) + x - B.x0 = (q : Int)) (hsn : s ≤ 1000000) (hkn : q < n) (hnm : n ≤ m) (hm : m ≤ maxLen) :
    Calls Try.prog 43 #[.agg #[.int .i64 B.x0, .int .i64 B.y0, .int .i64 B.x1, .int .i64 B.y1, .slice (some ⟨g, off, none⟩) n m], .int .i64 x, .int .i64 y0, .int .i64 y1] w fun e w' => e = .returned (.agg #[.slice (some ⟨g, off + q * 4, none⟩) (n - q) (m - q), .int .i64 (B.x1 - B.x0), .int .i64 (y1 - y0)]) ∧ Below w.heap.size w w' := by
  have HO := hid (And.intro ho (And.intro hx0 hy))
  have HQ := hid (And.intro hs hq)
  obtain ⟨⟨a0, a1⟩, ⟨a2, a3⟩, ⟨c0, c1⟩, d0, d1⟩ := ho
  obtain ⟨u0, u1⟩ := hx0
  obtain ⟨v0, v1⟩ := hy1
  obtain ⟨t0, t1⟩ := hy
  have hw1 : IntKind.i64.wrap (B.x1 - B.x0) = B.x1 - B.x0 := by rw [IntKind.wrap_i64]; omega
  have hw2 : IntKind.i64.wrap (y1 - y0) = y1 - y0 := by rw [IntKind.wrap_i64]; omega
  have z1 : (q : Int) ≤ (n : Int) := by omega
  have z2 : (n : Int) ≤ (m : Int) := by omega
  have z3 : ¬ m = q := by omega
  have z4 : (q : Int) < (n : Int) := by omega
  simp only [maxLen] at hm
  have HM : Hid (∀ w', w' = (w.alloc (.cells #[.int .i64 B.x0, .int .i64 B.y0, .int .i64 B.x1, .int .i64 B.y1, .slice (some ⟨g, off, none⟩) n m] 26)).alloc (.cells #[.slice none 0 0, .int .i64 0, .int .i64 0] 67) → Has5 w' w.heap.size B (some ⟨g, off, none⟩) n m ∧ L3 w' (w.heap.size + 1) (.slice none 0 0) 0 0 ∧ Below w.heap.size w w') := by
    intro w' hw'
    subst hw'
    exact ⟨(Has5.new rfl _ _ _ _ _ _ _ _).alloc _, L3.new (by simp) _ _ _ _, ((Below.refl _ _).alloc (Nat.le_refl _) _).alloc (by simp) _⟩
  clear hs hq
  go_enter Try.func43, Try.ntmps43
  go_wp2
  generalize hW0 : (w.alloc (.cells #[.int .i64 B.x0, .int .i64 B.y0, .int .i64 B.x1, .int .i64 B.y1, .slice (some ⟨g, off, none⟩) n m] 26)).alloc (.cells #[.slice none 0 0, .int .i64 0, .int .i64 0] 67) = W0
  obtain ⟨h5, h3, hlow⟩ := HM.out W0 hW0.symm
  have HW := hid (And.intro h5 (And.intro h3 hlow))
  obtain ⟨b0, b1, b2, b3, b4, bf⟩ := h5
  clear hW0 HM h3 hlow
  have hS : S5c w.heap.size B (.slice (some ⟨g, off, none⟩) n m) W0 := ⟨b0, b1, b2, b3, b4⟩
  go_region_held3 (fun w' => w'.cell? ⟨w.heap.size, 0, none⟩ = some (.int .i64 B.x0) ∧ w'.cell? ⟨w.heap.size, 1, none⟩ = some (.int .i64 B.y0) ∧ w'.cell? ⟨w.heap.size, 2, none⟩ = some (.int .i64 B.x1) ∧ w'.cell? ⟨w.heap.size, 3, none⟩ = some (.int .i64 B.y1) ∧ w'.cell? ⟨w.heap.size, 4, none⟩ = some (.slice (some ⟨g, off, none⟩) n m)) (repeat (first | with_reducible assumption | with_reducible refine s5c_drew ?_ | with_reducible refine s5c_set3 ?_ (by omega) | with_reducible refine s5c_below ?_ ‹_›))
    ((first | (go_at_call 56; with_reducible refine Calls.mono (index_any B.x0 B.y0 B.x1 B.y1 (some ⟨g, off, none⟩) n m x y0 s q _ HO.out.1 HO.out.2.1 HO.out.2.2 HQ.out.1 HQ.out.2 hsn) ?_; rintro e w1 ⟨rfl, hb1⟩; have HB1 := hid (Rc.via ((Below.refl W0.heap.size W0).drew) hb1); obtain ⟨r0, r1, r2, rf⟩ := HW.out.2.1.below HB1.out)))
  all_goals
    go_wp2
    obtain ⟨s0, s1, s2⟩ := set3 r0 r1 r2 (.slice (some ⟨g, off + q * 4, none⟩) (n - q) (m - q)) (.int .i64 (B.x1 - B.x0)) (.int .i64 (y1 - y0))
    refine bodyPost_ret (v := .agg #[.slice (some ⟨g, off + q * 4, none⟩) (n - q) (m - q), .int .i64 (B.x1 - B.x0), .int .i64 (y1 - y0)]) (by simp [results, Try.results43, go_sem, s0, s1, s2]) rfl ⟨rfl, ?_⟩
    exact below_set3 (Rc.via HW.out.2.2 HB1.out) (by omega) _ _ _
end Go.Proofs.Ytfkbdpbgeglgaaa
