/- What a node needs of each input, by the document: the contract. -/
import Derived.Test.YtamojciiacmjaaaDoorNdBox
namespace Go.Proofs.YtamojciiacmjaaaDoor
open Num Go.RowKit
open Rg.Num (R empB orN nil moveR grow meet join mvd mx mn cutR Ok Pr boxQ hasB)
set_option linter.unusedVariables false
set_option linter.unusedSimpArgs false

theorem src22k {w : World} {k : Nat} (hk : k = w.heap.size) (r : R) : Src Tryd.prog 4 31 (.slice (some ⟨k, 0, none⟩) 1 1) 1 (Rg.flat [r]) (w.alloc (.cells #[.int .i64 r.x0, .int .i64 r.y0, .int .i64 r.x1, .int .i64 r.y1] 26)) := by subst hk; exact Rg.src22 w r
theorem rep_snoc (k : Nat) (Z : R) : List.replicate k Z ++ [Z] = List.replicate (k + 1) Z := by rw [List.replicate_succ']
theorem cell_lo {lo : Nat} {W w : World} (hb : Below lo W w) {b o : Nat} {v : Value} (hlt : b < lo) (h : W.cell? ⟨b, o, none⟩ = some v) : w.cell? ⟨b, o, none⟩ = some v := (hb.cell (p := ⟨b, o, none⟩) hlt).trans h
/-- the node, the rectangle, and what is answered so far -/
structure Od (w wr : World) (op : Int) (ai : Option Addr) (ni ci : Nat) (ap : Option Addr) (np cp : Nat) (a b c d : Int) (mo : Option Addr) (k mc mb moff : Nat) (M : List R) : Prop where
  n : Nb wr w.heap.size op ai ni ci ap np cp
  s : Rg.Rc.Has4 wr (w.heap.size + 1) (.int .i64 a) (.int .i64 b) (.int .i64 c) (.int .i64 d)
  o : Rg.Ow (w.heap.size + 1 + 1) wr mo k mc mb moff M
  low : Below w.heap.size w wr
  sz : w.heap.size + 1 + 1 ≤ wr.heap.size
section
variable {w wr w' : World} {op : Int} {ai : Option Addr} {ni ci : Nat} {ap : Option Addr} {np cp : Nat} {a b c d : Int} {mo : Option Addr} {k mc mb moff : Nat} {M : List R}
theorem Od.to (h : Od w wr op ai ni ci ap np cp a b c d mo k mc mb moff M) (hb : Below wr.heap.size wr w') : Od w w' op ai ni ci ap np cp a b c d mo k mc mb moff M := ⟨h.n.below hb, h.s.below hb, h.o.below hb, via (w := w) h.low hb, Nat.le_trans h.sz hb.size⟩
theorem od_app {mo' : Option Addr} {k' mc' mb' moff' : Nat} {M' : List R} (h : Od w wr op ai ni ci ap np cp a b c d mo k mc mb moff M) (hb : Below (w.heap.size + 1 + 1) wr w') (ho : Rg.Ow (w.heap.size + 1 + 1) w' mo' k' mc' mb' moff' M') : Od w w' op ai ni ci ap np cp a b c d mo' k' mc' mb' moff' M' :=
  ⟨⟨cell_lo hb (by omega) h.n.c0, cell_lo hb (by omega) h.n.c1, cell_lo hb (by omega) h.n.c2⟩, ⟨cell_lo hb (by omega) h.s.c0, cell_lo hb (by omega) h.s.c1, cell_lo hb (by omega) h.s.c2, cell_lo hb (by omega) h.s.c3, fun o => (hb.frozen (p := ⟨w.heap.size + 1, o, none⟩) (by show w.heap.size + 1 < _; omega)).trans (h.s.fz o)⟩, ho, h.low.trans (hb.mono (by omega)), Nat.le_trans h.sz hb.size⟩
theorem od_new (w : World) (op : Int) (ai : Option Addr) (ni ci : Nat) (ap : Option Addr) (np cp : Nat) (a b c d : Int) :
    Od w ((w.alloc (.cells #[.int .i64 op, .slice ai ni ci, .slice ap np cp] 24)).alloc (.cells #[.int .i64 a, .int .i64 b, .int .i64 c, .int .i64 d] 26)) op ai ni ci ap np cp a b c d none 0 0 0 0 [] :=
  ⟨(nb_new w op ai ni ci ap np cp 24).below (al _), Rg.Rc.Has4.new (by simp) _ _ _ _ _, Rg.oz_nil _ _ _ _, ((Below.refl _ _).alloc (Nat.le_refl _) _).alloc (by simp) _, by simp⟩
end

abbrev Sd0 (w : World) (g : Nat) (k : Nat) (a b c d : Int) (w' : World) : Prop := (w'.cell? ⟨g, 0, none⟩ = some (.int .i64 a) ∧ w'.cell? ⟨g, 1, none⟩ = some (.int .i64 b) ∧ w'.cell? ⟨g, 2, none⟩ = some (.int .i64 c) ∧ w'.cell? ⟨g, 3, none⟩ = some (.int .i64 d)) ∧ Rg.Rc.Rest w k w'
theorem sd0_below {w : World} {g : Nat} {k : Nat} {a b c d : Int} {w1 w2 : World} (h : Sd0 w g k a b c d w1) (hb : Below w1.heap.size w1 w2) : Sd0 w g k a b c d w2 := by
  obtain ⟨⟨h0, h1, h2, h3⟩, hB, hk, x0, x1, x2, x3, hR⟩ := h
  exact ⟨⟨cell_below hb h0, cell_below hb h1, cell_below hb h2, cell_below hb h3⟩, via hB hb, hk, x0, x1, x2, x3, hR.below hb⟩
theorem sd0_drew {w : World} {g : Nat} {k : Nat} {a b c d : Int} {w1 : World} (h : Sd0 w g k a b c d w1) : Sd0 w g k a b c d w1.drew := sd0_below h (Below.refl _ _).drew
theorem sd0_alloc {w : World} {g : Nat} {k : Nat} {a b c d : Int} {w1 : World} {o : Obj} (h : Sd0 w g k a b c d w1) : Sd0 w g k a b c d (w1.alloc o) := sd0_below h (al _)
theorem sd0_set {w : World} {g : Nat} {k : Nat} {a b c d : Int} {w1 : World} {x0 x1 x2 x3 : Value} (ne : k ≠ g) (h : Sd0 w g k a b c d w1) : Sd0 w g k a b c d ((((w1.setCell ⟨k, 0, none⟩ x0).setCell ⟨k, 1, none⟩ x1).setCell ⟨k, 2, none⟩ x2).setCell ⟨k, 3, none⟩ x3) := by
  obtain ⟨⟨h0, h1, h2, h3⟩, hB, hk, y0, y1, y2, y3, hR⟩ := h
  obtain ⟨s0, s1, s2, s3⟩ := Rg.Rc.set4 hR.c0 hR.c1 hR.c2 hR.c3 x0 x1 x2 x3
  refine ⟨⟨?_, ?_, ?_, ?_⟩, low4 hB hk _ _ _ _, hk, x0, x1, x2, x3, s0, s1, s2, s3, fun o => ?_⟩
  · simp [World.cell?_setCell_far, ne, h0]
  · simp [World.cell?_setCell_far, ne, h1]
  · simp [World.cell?_setCell_far, ne, h2]
  · simp [World.cell?_setCell_far, ne, h3]
  · simp [World.frozen?_setCell, hR.fz o]
theorem sd0_out {w : World} {g : Nat} {k : Nat} {a b c d : Int} {w1 : World} (h : Sd0 w g k a b c d w1) : Below w.heap.size w w1 ∧ ∃ x0 x1 x2 x3, Rg.Rc.Has4 w1 k x0 x1 x2 x3 := by
  obtain ⟨-, hB, -, hR⟩ := h
  exact ⟨hB, hR⟩
abbrev Sd2 (w : World) (g : Nat) (k : Nat) (a b c d : Int) (bp ob : Nat) (q : Nat → Int) (w' : World) : Prop := (w'.cell? ⟨g, 0, none⟩ = some (.int .i64 a) ∧ w'.cell? ⟨g, 1, none⟩ = some (.int .i64 b) ∧ w'.cell? ⟨g, 2, none⟩ = some (.int .i64 c) ∧ w'.cell? ⟨g, 3, none⟩ = some (.int .i64 d) ∧ w'.cell? ⟨bp, ob, none⟩ = some (.int .i64 (q 0)) ∧ w'.cell? ⟨bp, ob + 1, none⟩ = some (.int .i64 (q 1))) ∧ Rg.Rc.Rest w k w'
theorem sd2_below {w : World} {g : Nat} {k : Nat} {a b c d : Int} {bp ob : Nat} {q : Nat → Int} {w1 w2 : World} (h : Sd2 w g k a b c d bp ob q w1) (hb : Below w1.heap.size w1 w2) : Sd2 w g k a b c d bp ob q w2 := by
  obtain ⟨⟨h0, h1, h2, h3, h4, h5⟩, hB, hk, x0, x1, x2, x3, hR⟩ := h
  exact ⟨⟨cell_below hb h0, cell_below hb h1, cell_below hb h2, cell_below hb h3, cell_below hb h4, cell_below hb h5⟩, via hB hb, hk, x0, x1, x2, x3, hR.below hb⟩
theorem sd2_drew {w : World} {g : Nat} {k : Nat} {a b c d : Int} {bp ob : Nat} {q : Nat → Int} {w1 : World} (h : Sd2 w g k a b c d bp ob q w1) : Sd2 w g k a b c d bp ob q w1.drew := sd2_below h (Below.refl _ _).drew
theorem sd2_alloc {w : World} {g : Nat} {k : Nat} {a b c d : Int} {bp ob : Nat} {q : Nat → Int} {w1 : World} {o : Obj} (h : Sd2 w g k a b c d bp ob q w1) : Sd2 w g k a b c d bp ob q (w1.alloc o) := sd2_below h (al _)
theorem sd2_set {w : World} {g : Nat} {k : Nat} {a b c d : Int} {bp ob : Nat} {q : Nat → Int} {w1 : World} {x0 x1 x2 x3 : Value} (ne : k ≠ g) (ne' : k ≠ bp) (h : Sd2 w g k a b c d bp ob q w1) : Sd2 w g k a b c d bp ob q ((((w1.setCell ⟨k, 0, none⟩ x0).setCell ⟨k, 1, none⟩ x1).setCell ⟨k, 2, none⟩ x2).setCell ⟨k, 3, none⟩ x3) := by
  obtain ⟨⟨h0, h1, h2, h3, h4, h5⟩, hB, hk, y0, y1, y2, y3, hR⟩ := h
  obtain ⟨s0, s1, s2, s3⟩ := Rg.Rc.set4 hR.c0 hR.c1 hR.c2 hR.c3 x0 x1 x2 x3
  refine ⟨⟨?_, ?_, ?_, ?_, ?_, ?_⟩, low4 hB hk _ _ _ _, hk, x0, x1, x2, x3, s0, s1, s2, s3, fun o => ?_⟩
  · simp [World.cell?_setCell_far, ne, h0]
  · simp [World.cell?_setCell_far, ne, h1]
  · simp [World.cell?_setCell_far, ne, h2]
  · simp [World.cell?_setCell_far, ne, h3]
  · simp [World.cell?_setCell_far, ne', h4]
  · simp [World.cell?_setCell_far, ne', h5]
  · simp [World.frozen?_setCell, hR.fz o]
theorem sd2_out {w : World} {g : Nat} {k : Nat} {a b c d : Int} {bp ob : Nat} {q : Nat → Int} {w1 : World} (h : Sd2 w g k a b c d bp ob q w1) : Below w.heap.size w w1 ∧ ∃ x0 x1 x2 x3, Rg.Rc.Has4 w1 k x0 x1 x2 x3 := by
  obtain ⟨-, hB, -, hR⟩ := h
  exact ⟨hB, hR⟩
abbrev Sd4 (w : World) (g : Nat) (k : Nat) (a b c d : Int) (bp ob : Nat) (q : Nat → Int) (w' : World) : Prop := (w'.cell? ⟨g, 0, none⟩ = some (.int .i64 a) ∧ w'.cell? ⟨g, 1, none⟩ = some (.int .i64 b) ∧ w'.cell? ⟨g, 2, none⟩ = some (.int .i64 c) ∧ w'.cell? ⟨g, 3, none⟩ = some (.int .i64 d) ∧ w'.cell? ⟨bp, ob, none⟩ = some (.int .i64 (q 0)) ∧ w'.cell? ⟨bp, ob + 1, none⟩ = some (.int .i64 (q 1)) ∧ w'.cell? ⟨bp, ob + 2, none⟩ = some (.int .i64 (q 2)) ∧ w'.cell? ⟨bp, ob + 3, none⟩ = some (.int .i64 (q 3))) ∧ Rg.Rc.Rest w k w'
theorem sd4_below {w : World} {g : Nat} {k : Nat} {a b c d : Int} {bp ob : Nat} {q : Nat → Int} {w1 w2 : World} (h : Sd4 w g k a b c d bp ob q w1) (hb : Below w1.heap.size w1 w2) : Sd4 w g k a b c d bp ob q w2 := by
  obtain ⟨⟨h0, h1, h2, h3, h4, h5, h6, h7⟩, hB, hk, x0, x1, x2, x3, hR⟩ := h
  exact ⟨⟨cell_below hb h0, cell_below hb h1, cell_below hb h2, cell_below hb h3, cell_below hb h4, cell_below hb h5, cell_below hb h6, cell_below hb h7⟩, via hB hb, hk, x0, x1, x2, x3, hR.below hb⟩
theorem sd4_drew {w : World} {g : Nat} {k : Nat} {a b c d : Int} {bp ob : Nat} {q : Nat → Int} {w1 : World} (h : Sd4 w g k a b c d bp ob q w1) : Sd4 w g k a b c d bp ob q w1.drew := sd4_below h (Below.refl _ _).drew
theorem sd4_alloc {w : World} {g : Nat} {k : Nat} {a b c d : Int} {bp ob : Nat} {q : Nat → Int} {w1 : World} {o : Obj} (h : Sd4 w g k a b c d bp ob q w1) : Sd4 w g k a b c d bp ob q (w1.alloc o) := sd4_below h (al _)
theorem sd4_set {w : World} {g : Nat} {k : Nat} {a b c d : Int} {bp ob : Nat} {q : Nat → Int} {w1 : World} {x0 x1 x2 x3 : Value} (ne : k ≠ g) (ne' : k ≠ bp) (h : Sd4 w g k a b c d bp ob q w1) : Sd4 w g k a b c d bp ob q ((((w1.setCell ⟨k, 0, none⟩ x0).setCell ⟨k, 1, none⟩ x1).setCell ⟨k, 2, none⟩ x2).setCell ⟨k, 3, none⟩ x3) := by
  obtain ⟨⟨h0, h1, h2, h3, h4, h5, h6, h7⟩, hB, hk, y0, y1, y2, y3, hR⟩ := h
  obtain ⟨s0, s1, s2, s3⟩ := Rg.Rc.set4 hR.c0 hR.c1 hR.c2 hR.c3 x0 x1 x2 x3
  refine ⟨⟨?_, ?_, ?_, ?_, ?_, ?_, ?_, ?_⟩, low4 hB hk _ _ _ _, hk, x0, x1, x2, x3, s0, s1, s2, s3, fun o => ?_⟩
  · simp [World.cell?_setCell_far, ne, h0]
  · simp [World.cell?_setCell_far, ne, h1]
  · simp [World.cell?_setCell_far, ne, h2]
  · simp [World.cell?_setCell_far, ne, h3]
  · simp [World.cell?_setCell_far, ne', h4]
  · simp [World.cell?_setCell_far, ne', h5]
  · simp [World.cell?_setCell_far, ne', h6]
  · simp [World.cell?_setCell_far, ne', h7]
  · simp [World.frozen?_setCell, hR.fz o]
theorem sd4_out {w : World} {g : Nat} {k : Nat} {a b c d : Int} {bp ob : Nat} {q : Nat → Int} {w1 : World} (h : Sd4 w g k a b c d bp ob q w1) : Below w.heap.size w w1 ∧ ∃ x0 x1 x2 x3, Rg.Rc.Has4 w1 k x0 x1 x2 x3 := by
  obtain ⟨-, hB, -, hR⟩ := h
  exact ⟨hB, hR⟩
abbrev Sdo (w : World) (g g0 : Nat) (k : Nat) (a b c d op : Int) (w' : World) : Prop := (w'.cell? ⟨g, 0, none⟩ = some (.int .i64 a) ∧ w'.cell? ⟨g, 1, none⟩ = some (.int .i64 b) ∧ w'.cell? ⟨g, 2, none⟩ = some (.int .i64 c) ∧ w'.cell? ⟨g, 3, none⟩ = some (.int .i64 d) ∧ w'.cell? ⟨g0, 0, none⟩ = some (.int .i64 op) ∧ w'.cell? ⟨k, 0, none⟩ = some (.int .i64 a) ∧ w'.cell? ⟨k, 1, none⟩ = some (.int .i64 b) ∧ w'.cell? ⟨k, 2, none⟩ = some (.int .i64 c) ∧ w'.cell? ⟨k, 3, none⟩ = some (.int .i64 d)) ∧ Rg.Rc.Rest w k w'
theorem sdo_below {w : World} {g g0 : Nat} {k : Nat} {a b c d op : Int} {w1 w2 : World} (h : Sdo w g g0 k a b c d op w1) (hb : Below w1.heap.size w1 w2) : Sdo w g g0 k a b c d op w2 := by
  obtain ⟨⟨h0, h1, h2, h3, h4, h5, h6, h7, h8⟩, hB, hk, x0, x1, x2, x3, hR⟩ := h
  exact ⟨⟨cell_below hb h0, cell_below hb h1, cell_below hb h2, cell_below hb h3, cell_below hb h4, cell_below hb h5, cell_below hb h6, cell_below hb h7, cell_below hb h8⟩, via hB hb, hk, x0, x1, x2, x3, hR.below hb⟩
theorem sdo_drew {w : World} {g g0 : Nat} {k : Nat} {a b c d op : Int} {w1 : World} (h : Sdo w g g0 k a b c d op w1) : Sdo w g g0 k a b c d op w1.drew := sdo_below h (Below.refl _ _).drew
theorem sdo_alloc {w : World} {g g0 : Nat} {k : Nat} {a b c d op : Int} {w1 : World} {o : Obj} (h : Sdo w g g0 k a b c d op w1) : Sdo w g g0 k a b c d op (w1.alloc o) := sdo_below h (al _)
theorem sdo_out {w : World} {g g0 : Nat} {k : Nat} {a b c d op : Int} {w1 : World} (h : Sdo w g g0 k a b c d op w1) : Below w.heap.size w w1 ∧ Rg.Rc.Has4 w1 k (.int .i64 a) (.int .i64 b) (.int .i64 c) (.int .i64 d) := by
  obtain ⟨⟨-, -, -, -, -, h5, h6, h7, h8⟩, hB, -, x0, x1, x2, x3, hR⟩ := h
  exact ⟨hB, h5, h6, h7, h8, hR.fz⟩

set_option maxRecDepth 100000 in
set_option maxHeartbeats 8000000 in
theorem refOf_any (op : Int) (ai : Option Addr) (ni ci bi oi : Nat) (l : List Int) (ap : Option Addr) (np cp bp ob : Nat) (p : List Int) (a b c d : Int) (w : World) (hi : Vi w ai ni ci bi oi l) (hni : ni ≤ 1000) (hp : Vi w ap np cp bp ob p) (hr : Rn op l p) (hok : Ok ⟨a, b, c, d⟩) :
    Calls Tryd.prog 13 #[.agg #[.int .i64 op, .slice ai ni ci, .slice ap np cp], .agg #[.int .i64 a, .int .i64 b, .int .i64 c, .int .i64 d]] w fun e w' => Rg.RetO w.heap.size w' e (List.replicate ni (needA op (nth p) ⟨a, b, c, d⟩)) ∧ Below w.heap.size w w' := by
  have HD0 := hid (od_new w op ai ni ci ap np cp a b c d)
  have hlp := vi_len hp
  have hli := vi_len hi
  have HP := hid hp
  have HPr := hid hr.pr
  have HO := hid hok
  have hpar : Hid (np = parI op) := hid (by rw [← hlp]; exact hr.pl)
  have h6 : op = 6 → ni = 0 := fun h => by rw [← hli, hr.n h]; rfl
  have hop := hr.k
  obtain ⟨Z, hZ⟩ : ∃ Z, Z = needA op (nth p) ⟨a, b, c, d⟩ := ⟨_, rfl⟩
  obtain ⟨i0, hi1, hz0, hz1, hz2⟩ := info_parts Rg.info26
  have HI := hid (And.intro hi1 (And.intro hz0 (And.intro hz1 hz2)))
  rw [← hZ]
  clear hp hok hi hr hi1 hz0 hz1 hz2
  go_enter Tryd.func13, Tryd.ntmps13
  go_wp2
  go_loopg [5, 6] ni (fun g v5 v6 wr => ∃ (k : Nat) (mo : Option Addr) (mc mb moff : Nat), k ≤ ni ∧ g = ni - k ∧ v6 = .int .i64 k ∧ v5 = .slice mo k mc ∧ Od w wr op ai ni ci ap np cp a b c d mo k mc mb moff (List.replicate k Z))
  case atStart => exact ⟨0, _, _, 0, 0, Nat.zero_le _, rfl, rfl, rfl, HD0.out⟩
  case round =>
    obtain ⟨k, mo, mc, mb, moff, hk, rfl, rfl, rfl, hD⟩ := hrel
    have HD := hid hD
    clear hD HD0
    by_cases hlt : k < ni
    case neg =>
      obtain rfl : k = ni := by omega
      obtain ⟨n0, n1, n2⟩ := id HD.out.n
      clear hlt
      go_wp2
      go_ret
      exact ⟨⟨_, _, _, _, _, rfl, HD.out.o.mono (by omega)⟩, HD.out.low⟩
    have hlz : (k : Int) < (ni : Int) := by omega
    obtain ⟨n0, n1, n2⟩ := id HD.out.n
    obtain ⟨a0, a1, a2, a3, af⟩ := id HD.out.s
    have jn : w.heap.size < wr.heap.size := World.block_lt_of_cell? _ _ n0
    have j1 : w.heap.size + 1 < wr.heap.size := World.block_lt_of_cell? _ _ a0
    rcases he : empB ⟨a, b, c, d⟩ with _ | _
    case true =>
      have HE := hid he
      have HZ : Hid (Z = nil) := hid (by rw [hZ]; exact need_nil _ _ he)
      clear he hZ
      go_wp2_with (first
        | (go_at_call 27; with_reducible refine Calls.mono (Rg.Rc.refEmpty_any a b c d _) ?_; rintro e w1 ⟨rfl, hb⟩; rw [HE.out]; have HB1 := hid (via (w := wr) (al _) hb); have H1 := hid (HD.out.to HB1.out); clear n0 n1 n2 a0 a1 a2 a3 af; obtain ⟨n0, n1, n2⟩ := id H1.out.n; obtain ⟨a0, a1, a2, a3, af⟩ := id H1.out.s; have H7 := hid ((Rg.Rc.Has4.new (W := wr) (k := wr.heap.size) rfl (.int .i64 a) (.int .i64 b) (.int .i64 c) (.int .i64 d) 26).below hb); obtain ⟨z0, z1, z2, z3, zf⟩ := id H7.out; clear hb; obtain ⟨s0, s1, s2, s3⟩ := Rg.Rc.set4 z0 z1 z2 z3 (.int .i64 0) (.int .i64 0) (.int .i64 0) (.int .i64 0); have HX := hid (HD.out.to (low4 HB1.out (Nat.le_refl _) (.int .i64 0) (.int .i64 0) (.int .i64 0) (.int .i64 0))))
        | (at_builtin; refine Rg.wpList_append_mine _ rfl (.tmp 104) (.tmp 106) 31 31 rfl (HX.out.o.below (al _)) (Nat.le_trans HX.out.sz (al _).size) 26 i0 _ 32 Tryd.underlying31 HI.out.1 HI.out.2.1 HI.out.2.2.1 HI.out.2.2.2 rfl rfl _ 1 (Rg.flat [(⟨0, 0, 0, 0⟩ : R)]) rfl (src22k (by simp) (⟨0, 0, 0, 0⟩ : R)) (by simp only [maxLen]; omega) (by omega) ?_; intro eo ec eb eoff w9 hO9 hB9 _ _; rw [← Rg.flat_append] at hO9; have H9 := hid (od_app (HX.out.to (al _)) hB9 hO9); clear hO9 hB9))
      go_roundg (ni - (k + 1))
      case measure => omega
      case rel => exact ⟨k + 1, _, _, eb, eoff, hlt, rfl, by simp, rfl, by have h9 := H9.out; rw [show (⟨0, 0, 0, 0⟩ : R) = Z from HZ.out.symm, rep_snoc] at h9; exact h9⟩

    have HE := hid he
    have hA : needA op (nth p) ⟨a, b, c, d⟩ = needB op (nth p) ⟨a, b, c, d⟩ := need_some _ _ he
    rw [hA] at hZ
    clear he hA
    have hcases : op = 1 ∨ op = 2 ∨ op = 3 ∨ op = 4 ∨ op = 5 ∨ op = 6 ∨ op = 7 ∨ op = 8 ∨ op = 9 ∨ op = 10 ∨ op = 11 ∨ op = 12 := by omega
    rcases hcases with rfl | rfl | rfl | rfl | rfl | rfl | rfl | rfl | rfl | rfl | rfl | rfl
    · have HZ : Hid (Z = (moveR ⟨a, b, c, d⟩ (-(nth p 0)) (-(nth p 1)))) := hid hZ
      obtain ⟨⟨q1, q2⟩, q3, q4⟩ := HPr.out.m (Or.inl rfl)
      have wr0 : IntKind.i64.wrap (-nth p 0) = -nth p 0 := by rw [IntKind.wrap_i64]; omega
      have wr1 : IntKind.i64.wrap (-nth p 1) = -nth p 1 := by rw [IntKind.wrap_i64]; omega
      have hpn : np = 2 := hpar
      obtain ⟨rfl, c0⟩ := vi_at HP.out (nth_get (show 0 < p.length by omega))
      obtain ⟨-, c1⟩ := vi_at HP.out (nth_get (show 1 < p.length by omega))
      rw [Nat.add_zero] at c0
      have hbp : bp < w.heap.size := World.block_lt_of_cell? _ _ c0
      have HPC := hid (And.intro c0 c1)
      subst hpn
      clear hZ hpar h6 c0 c1
      go_wp2_with (go_at_call 27; with_reducible refine Calls.mono (Rg.Rc.refEmpty_any a b c d _) ?_; rintro e w1 ⟨rfl, hb⟩; rw [HE.out]; have HB1 := hid (via (w := wr) (al _) hb); have H1 := hid (HD.out.to HB1.out); clear n0 n1 n2 a0 a1 a2 a3 af; obtain ⟨n0, n1, n2⟩ := id H1.out.n; obtain ⟨a0, a1, a2, a3, af⟩ := id H1.out.s; have H7 := hid ((Rg.Rc.Has4.new (W := wr) (k := wr.heap.size) rfl (.int .i64 a) (.int .i64 b) (.int .i64 c) (.int .i64 d) 26).below hb); obtain ⟨z0, z1, z2, z3, zf⟩ := id H7.out; clear hb)
      have hS : Sd2 wr (w.heap.size + 1) wr.heap.size a b c d bp ob (nth p) w1 := ⟨⟨a0, a1, a2, a3, cell_below H1.out.low HPC.out.1, cell_below H1.out.low HPC.out.2⟩, HB1.out, Nat.le_refl _, _, _, _, _, H7.out⟩
      go_region_held3 (fun w' => (w'.cell? ⟨(w.heap.size + 1), 0, none⟩ = some (.int .i64 a) ∧ w'.cell? ⟨(w.heap.size + 1), 1, none⟩ = some (.int .i64 b) ∧ w'.cell? ⟨(w.heap.size + 1), 2, none⟩ = some (.int .i64 c) ∧ w'.cell? ⟨(w.heap.size + 1), 3, none⟩ = some (.int .i64 d) ∧ w'.cell? ⟨bp, ob, none⟩ = some (.int .i64 (nth p 0)) ∧ w'.cell? ⟨bp, ob + 1, none⟩ = some (.int .i64 (nth p 1))) ∧ Rg.Rc.Rest wr wr.heap.size w') (repeat (first | with_reducible assumption | with_reducible refine sd2_drew ?_ | with_reducible refine sd2_alloc ?_ | with_reducible refine sd2_set (by omega) (by omega) ?_ | with_reducible refine sd2_below ?_ ‹_›)) ((first
        | (go_at_call 28; with_reducible refine Calls.mono (Rg.Rc.refMove_any a b c d (-(nth p 0)) (-(nth p 1)) _ HO.out (by omega) (by omega)) ?_; rintro e w5 ⟨rfl, hb5⟩; have hq : Sd2 wr (w.heap.size + 1) wr.heap.size a b c d bp ob (nth p) w5 := sd2_below (by repeat (first | with_reducible assumption | with_reducible refine sd2_drew ?_ | with_reducible refine sd2_alloc ?_ | with_reducible refine sd2_below ?_ ‹_›)) hb5; obtain ⟨hB3, u0, u1, u2, u3, t0, t1, t2, t3, tf⟩ := sd2_out hq)))
      obtain ⟨s0, s1, s2, s3⟩ := Rg.Rc.set4 t0 t1 t2 t3 (.int .i64 (moveR ⟨a, b, c, d⟩ (-(nth p 0)) (-(nth p 1))).x0) (.int .i64 (moveR ⟨a, b, c, d⟩ (-(nth p 0)) (-(nth p 1))).y0) (.int .i64 (moveR ⟨a, b, c, d⟩ (-(nth p 0)) (-(nth p 1))).x1) (.int .i64 (moveR ⟨a, b, c, d⟩ (-(nth p 0)) (-(nth p 1))).y1)
      have HX := hid (HD.out.to (low4 hB3 (Nat.le_refl _) (.int .i64 (moveR ⟨a, b, c, d⟩ (-(nth p 0)) (-(nth p 1))).x0) (.int .i64 (moveR ⟨a, b, c, d⟩ (-(nth p 0)) (-(nth p 1))).y0) (.int .i64 (moveR ⟨a, b, c, d⟩ (-(nth p 0)) (-(nth p 1))).x1) (.int .i64 (moveR ⟨a, b, c, d⟩ (-(nth p 0)) (-(nth p 1))).y1)))
      have hn9 := HX.out.n.c0
      go_wp2_with (at_builtin; refine Rg.wpList_append_mine _ rfl (.tmp 104) (.tmp 106) 31 31 rfl (HX.out.o.below (al _)) (Nat.le_trans HX.out.sz (al _).size) 26 i0 _ 32 Tryd.underlying31 HI.out.1 HI.out.2.1 HI.out.2.2.1 HI.out.2.2.2 rfl rfl _ 1 (Rg.flat [(moveR ⟨a, b, c, d⟩ (-(nth p 0)) (-(nth p 1)))]) rfl (src22k (by simp) (moveR ⟨a, b, c, d⟩ (-(nth p 0)) (-(nth p 1)))) (by simp only [maxLen]; omega) (by omega) ?_; intro eo ec eb eoff w9 hO9 hB9 _ _; rw [← Rg.flat_append] at hO9; have H9 := hid (od_app (HX.out.to (al _)) hB9 hO9); clear hO9 hB9)
      go_roundg (ni - (k + 1))
      case measure => omega
      case rel => exact ⟨k + 1, _, _, eb, eoff, hlt, rfl, by simp, rfl, by have h9 := H9.out; rw [show (moveR ⟨a, b, c, d⟩ (-(nth p 0)) (-(nth p 1))) = Z from HZ.out.symm, rep_snoc] at h9; exact h9⟩
    · have HZ : Hid (Z = (grow ⟨a, b, c, d⟩ (nth p 0) (nth p 1) (nth p 0) (nth p 1))) := hid hZ
      obtain ⟨⟨q1, q2⟩, q3, q4⟩ := HPr.out.g (by decide)
      have hpn : np = 2 := hpar
      obtain ⟨rfl, c0⟩ := vi_at HP.out (nth_get (show 0 < p.length by omega))
      obtain ⟨-, c1⟩ := vi_at HP.out (nth_get (show 1 < p.length by omega))
      rw [Nat.add_zero] at c0
      have hbp : bp < w.heap.size := World.block_lt_of_cell? _ _ c0
      have HPC := hid (And.intro c0 c1)
      subst hpn
      clear hZ hpar h6 c0 c1
      go_wp2_with (go_at_call 27; with_reducible refine Calls.mono (Rg.Rc.refEmpty_any a b c d _) ?_; rintro e w1 ⟨rfl, hb⟩; rw [HE.out]; have HB1 := hid (via (w := wr) (al _) hb); have H1 := hid (HD.out.to HB1.out); clear n0 n1 n2 a0 a1 a2 a3 af; obtain ⟨n0, n1, n2⟩ := id H1.out.n; obtain ⟨a0, a1, a2, a3, af⟩ := id H1.out.s; have H7 := hid ((Rg.Rc.Has4.new (W := wr) (k := wr.heap.size) rfl (.int .i64 a) (.int .i64 b) (.int .i64 c) (.int .i64 d) 26).below hb); obtain ⟨z0, z1, z2, z3, zf⟩ := id H7.out; clear hb)
      have hS : Sd2 wr (w.heap.size + 1) wr.heap.size a b c d bp ob (nth p) w1 := ⟨⟨a0, a1, a2, a3, cell_below H1.out.low HPC.out.1, cell_below H1.out.low HPC.out.2⟩, HB1.out, Nat.le_refl _, _, _, _, _, H7.out⟩
      go_region_held3 (fun w' => (w'.cell? ⟨(w.heap.size + 1), 0, none⟩ = some (.int .i64 a) ∧ w'.cell? ⟨(w.heap.size + 1), 1, none⟩ = some (.int .i64 b) ∧ w'.cell? ⟨(w.heap.size + 1), 2, none⟩ = some (.int .i64 c) ∧ w'.cell? ⟨(w.heap.size + 1), 3, none⟩ = some (.int .i64 d) ∧ w'.cell? ⟨bp, ob, none⟩ = some (.int .i64 (nth p 0)) ∧ w'.cell? ⟨bp, ob + 1, none⟩ = some (.int .i64 (nth p 1))) ∧ Rg.Rc.Rest wr wr.heap.size w') (repeat (first | with_reducible assumption | with_reducible refine sd2_drew ?_ | with_reducible refine sd2_alloc ?_ | with_reducible refine sd2_set (by omega) (by omega) ?_ | with_reducible refine sd2_below ?_ ‹_›)) ((first
        | (go_at_call 29; with_reducible refine Calls.mono (Rg.Rc.refGrow_any a b c d (nth p 0) (nth p 1) (nth p 0) (nth p 1) _ HO.out (by omega) (by omega) (by omega) (by omega)) ?_; rintro e w5 ⟨rfl, hb5⟩; have hq : Sd2 wr (w.heap.size + 1) wr.heap.size a b c d bp ob (nth p) w5 := sd2_below (by repeat (first | with_reducible assumption | with_reducible refine sd2_drew ?_ | with_reducible refine sd2_alloc ?_ | with_reducible refine sd2_below ?_ ‹_›)) hb5; obtain ⟨hB3, u0, u1, u2, u3, t0, t1, t2, t3, tf⟩ := sd2_out hq)))
      obtain ⟨s0, s1, s2, s3⟩ := Rg.Rc.set4 t0 t1 t2 t3 (.int .i64 (grow ⟨a, b, c, d⟩ (nth p 0) (nth p 1) (nth p 0) (nth p 1)).x0) (.int .i64 (grow ⟨a, b, c, d⟩ (nth p 0) (nth p 1) (nth p 0) (nth p 1)).y0) (.int .i64 (grow ⟨a, b, c, d⟩ (nth p 0) (nth p 1) (nth p 0) (nth p 1)).x1) (.int .i64 (grow ⟨a, b, c, d⟩ (nth p 0) (nth p 1) (nth p 0) (nth p 1)).y1)
      have HX := hid (HD.out.to (low4 hB3 (Nat.le_refl _) (.int .i64 (grow ⟨a, b, c, d⟩ (nth p 0) (nth p 1) (nth p 0) (nth p 1)).x0) (.int .i64 (grow ⟨a, b, c, d⟩ (nth p 0) (nth p 1) (nth p 0) (nth p 1)).y0) (.int .i64 (grow ⟨a, b, c, d⟩ (nth p 0) (nth p 1) (nth p 0) (nth p 1)).x1) (.int .i64 (grow ⟨a, b, c, d⟩ (nth p 0) (nth p 1) (nth p 0) (nth p 1)).y1)))
      have hn9 := HX.out.n.c0
      go_wp2_with (at_builtin; refine Rg.wpList_append_mine _ rfl (.tmp 104) (.tmp 106) 31 31 rfl (HX.out.o.below (al _)) (Nat.le_trans HX.out.sz (al _).size) 26 i0 _ 32 Tryd.underlying31 HI.out.1 HI.out.2.1 HI.out.2.2.1 HI.out.2.2.2 rfl rfl _ 1 (Rg.flat [(grow ⟨a, b, c, d⟩ (nth p 0) (nth p 1) (nth p 0) (nth p 1))]) rfl (src22k (by simp) (grow ⟨a, b, c, d⟩ (nth p 0) (nth p 1) (nth p 0) (nth p 1))) (by simp only [maxLen]; omega) (by omega) ?_; intro eo ec eb eoff w9 hO9 hB9 _ _; rw [← Rg.flat_append] at hO9; have H9 := hid (od_app (HX.out.to (al _)) hB9 hO9); clear hO9 hB9)
      go_roundg (ni - (k + 1))
      case measure => omega
      case rel => exact ⟨k + 1, _, _, eb, eoff, hlt, rfl, by simp, rfl, by have h9 := H9.out; rw [show (grow ⟨a, b, c, d⟩ (nth p 0) (nth p 1) (nth p 0) (nth p 1)) = Z from HZ.out.symm, rep_snoc] at h9; exact h9⟩
    · have HZ : Hid (Z = (grow ⟨a, b, c, d⟩ (nth p 0) (nth p 1) (nth p 0) (nth p 1))) := hid hZ
      obtain ⟨⟨q1, q2⟩, q3, q4⟩ := HPr.out.g (by decide)
      have hpn : np = 2 := hpar
      obtain ⟨rfl, c0⟩ := vi_at HP.out (nth_get (show 0 < p.length by omega))
      obtain ⟨-, c1⟩ := vi_at HP.out (nth_get (show 1 < p.length by omega))
      rw [Nat.add_zero] at c0
      have hbp : bp < w.heap.size := World.block_lt_of_cell? _ _ c0
      have HPC := hid (And.intro c0 c1)
      subst hpn
      clear hZ hpar h6 c0 c1
      go_wp2_with (go_at_call 27; with_reducible refine Calls.mono (Rg.Rc.refEmpty_any a b c d _) ?_; rintro e w1 ⟨rfl, hb⟩; rw [HE.out]; have HB1 := hid (via (w := wr) (al _) hb); have H1 := hid (HD.out.to HB1.out); clear n0 n1 n2 a0 a1 a2 a3 af; obtain ⟨n0, n1, n2⟩ := id H1.out.n; obtain ⟨a0, a1, a2, a3, af⟩ := id H1.out.s; have H7 := hid ((Rg.Rc.Has4.new (W := wr) (k := wr.heap.size) rfl (.int .i64 a) (.int .i64 b) (.int .i64 c) (.int .i64 d) 26).below hb); obtain ⟨z0, z1, z2, z3, zf⟩ := id H7.out; clear hb)
      have hS : Sd2 wr (w.heap.size + 1) wr.heap.size a b c d bp ob (nth p) w1 := ⟨⟨a0, a1, a2, a3, cell_below H1.out.low HPC.out.1, cell_below H1.out.low HPC.out.2⟩, HB1.out, Nat.le_refl _, _, _, _, _, H7.out⟩
      go_region_held3 (fun w' => (w'.cell? ⟨(w.heap.size + 1), 0, none⟩ = some (.int .i64 a) ∧ w'.cell? ⟨(w.heap.size + 1), 1, none⟩ = some (.int .i64 b) ∧ w'.cell? ⟨(w.heap.size + 1), 2, none⟩ = some (.int .i64 c) ∧ w'.cell? ⟨(w.heap.size + 1), 3, none⟩ = some (.int .i64 d) ∧ w'.cell? ⟨bp, ob, none⟩ = some (.int .i64 (nth p 0)) ∧ w'.cell? ⟨bp, ob + 1, none⟩ = some (.int .i64 (nth p 1))) ∧ Rg.Rc.Rest wr wr.heap.size w') (repeat (first | with_reducible assumption | with_reducible refine sd2_drew ?_ | with_reducible refine sd2_alloc ?_ | with_reducible refine sd2_set (by omega) (by omega) ?_ | with_reducible refine sd2_below ?_ ‹_›)) ((first
        | (go_at_call 29; with_reducible refine Calls.mono (Rg.Rc.refGrow_any a b c d (nth p 0) (nth p 1) (nth p 0) (nth p 1) _ HO.out (by omega) (by omega) (by omega) (by omega)) ?_; rintro e w5 ⟨rfl, hb5⟩; have hq : Sd2 wr (w.heap.size + 1) wr.heap.size a b c d bp ob (nth p) w5 := sd2_below (by repeat (first | with_reducible assumption | with_reducible refine sd2_drew ?_ | with_reducible refine sd2_alloc ?_ | with_reducible refine sd2_below ?_ ‹_›)) hb5; obtain ⟨hB3, u0, u1, u2, u3, t0, t1, t2, t3, tf⟩ := sd2_out hq)))
      obtain ⟨s0, s1, s2, s3⟩ := Rg.Rc.set4 t0 t1 t2 t3 (.int .i64 (grow ⟨a, b, c, d⟩ (nth p 0) (nth p 1) (nth p 0) (nth p 1)).x0) (.int .i64 (grow ⟨a, b, c, d⟩ (nth p 0) (nth p 1) (nth p 0) (nth p 1)).y0) (.int .i64 (grow ⟨a, b, c, d⟩ (nth p 0) (nth p 1) (nth p 0) (nth p 1)).x1) (.int .i64 (grow ⟨a, b, c, d⟩ (nth p 0) (nth p 1) (nth p 0) (nth p 1)).y1)
      have HX := hid (HD.out.to (low4 hB3 (Nat.le_refl _) (.int .i64 (grow ⟨a, b, c, d⟩ (nth p 0) (nth p 1) (nth p 0) (nth p 1)).x0) (.int .i64 (grow ⟨a, b, c, d⟩ (nth p 0) (nth p 1) (nth p 0) (nth p 1)).y0) (.int .i64 (grow ⟨a, b, c, d⟩ (nth p 0) (nth p 1) (nth p 0) (nth p 1)).x1) (.int .i64 (grow ⟨a, b, c, d⟩ (nth p 0) (nth p 1) (nth p 0) (nth p 1)).y1)))
      have hn9 := HX.out.n.c0
      go_wp2_with (at_builtin; refine Rg.wpList_append_mine _ rfl (.tmp 104) (.tmp 106) 31 31 rfl (HX.out.o.below (al _)) (Nat.le_trans HX.out.sz (al _).size) 26 i0 _ 32 Tryd.underlying31 HI.out.1 HI.out.2.1 HI.out.2.2.1 HI.out.2.2.2 rfl rfl _ 1 (Rg.flat [(grow ⟨a, b, c, d⟩ (nth p 0) (nth p 1) (nth p 0) (nth p 1))]) rfl (src22k (by simp) (grow ⟨a, b, c, d⟩ (nth p 0) (nth p 1) (nth p 0) (nth p 1))) (by simp only [maxLen]; omega) (by omega) ?_; intro eo ec eb eoff w9 hO9 hB9 _ _; rw [← Rg.flat_append] at hO9; have H9 := hid (od_app (HX.out.to (al _)) hB9 hO9); clear hO9 hB9)
      go_roundg (ni - (k + 1))
      case measure => omega
      case rel => exact ⟨k + 1, _, _, eb, eoff, hlt, rfl, by simp, rfl, by have h9 := H9.out; rw [show (grow ⟨a, b, c, d⟩ (nth p 0) (nth p 1) (nth p 0) (nth p 1)) = Z from HZ.out.symm, rep_snoc] at h9; exact h9⟩
    · have HZ : Hid (Z = (grow ⟨a, b, c, d⟩ (nth p 0) (nth p 1) (nth p 0) (nth p 1))) := hid hZ
      obtain ⟨⟨q1, q2⟩, q3, q4⟩ := HPr.out.g (by decide)
      have hpn : np = 2 := hpar
      obtain ⟨rfl, c0⟩ := vi_at HP.out (nth_get (show 0 < p.length by omega))
      obtain ⟨-, c1⟩ := vi_at HP.out (nth_get (show 1 < p.length by omega))
      rw [Nat.add_zero] at c0
      have hbp : bp < w.heap.size := World.block_lt_of_cell? _ _ c0
      have HPC := hid (And.intro c0 c1)
      subst hpn
      clear hZ hpar h6 c0 c1
      go_wp2_with (go_at_call 27; with_reducible refine Calls.mono (Rg.Rc.refEmpty_any a b c d _) ?_; rintro e w1 ⟨rfl, hb⟩; rw [HE.out]; have HB1 := hid (via (w := wr) (al _) hb); have H1 := hid (HD.out.to HB1.out); clear n0 n1 n2 a0 a1 a2 a3 af; obtain ⟨n0, n1, n2⟩ := id H1.out.n; obtain ⟨a0, a1, a2, a3, af⟩ := id H1.out.s; have H7 := hid ((Rg.Rc.Has4.new (W := wr) (k := wr.heap.size) rfl (.int .i64 a) (.int .i64 b) (.int .i64 c) (.int .i64 d) 26).below hb); obtain ⟨z0, z1, z2, z3, zf⟩ := id H7.out; clear hb)
      have hS : Sd2 wr (w.heap.size + 1) wr.heap.size a b c d bp ob (nth p) w1 := ⟨⟨a0, a1, a2, a3, cell_below H1.out.low HPC.out.1, cell_below H1.out.low HPC.out.2⟩, HB1.out, Nat.le_refl _, _, _, _, _, H7.out⟩
      go_region_held3 (fun w' => (w'.cell? ⟨(w.heap.size + 1), 0, none⟩ = some (.int .i64 a) ∧ w'.cell? ⟨(w.heap.size + 1), 1, none⟩ = some (.int .i64 b) ∧ w'.cell? ⟨(w.heap.size + 1), 2, none⟩ = some (.int .i64 c) ∧ w'.cell? ⟨(w.heap.size + 1), 3, none⟩ = some (.int .i64 d) ∧ w'.cell? ⟨bp, ob, none⟩ = some (.int .i64 (nth p 0)) ∧ w'.cell? ⟨bp, ob + 1, none⟩ = some (.int .i64 (nth p 1))) ∧ Rg.Rc.Rest wr wr.heap.size w') (repeat (first | with_reducible assumption | with_reducible refine sd2_drew ?_ | with_reducible refine sd2_alloc ?_ | with_reducible refine sd2_set (by omega) (by omega) ?_ | with_reducible refine sd2_below ?_ ‹_›)) ((first
        | (go_at_call 29; with_reducible refine Calls.mono (Rg.Rc.refGrow_any a b c d (nth p 0) (nth p 1) (nth p 0) (nth p 1) _ HO.out (by omega) (by omega) (by omega) (by omega)) ?_; rintro e w5 ⟨rfl, hb5⟩; have hq : Sd2 wr (w.heap.size + 1) wr.heap.size a b c d bp ob (nth p) w5 := sd2_below (by repeat (first | with_reducible assumption | with_reducible refine sd2_drew ?_ | with_reducible refine sd2_alloc ?_ | with_reducible refine sd2_below ?_ ‹_›)) hb5; obtain ⟨hB3, u0, u1, u2, u3, t0, t1, t2, t3, tf⟩ := sd2_out hq)))
      obtain ⟨s0, s1, s2, s3⟩ := Rg.Rc.set4 t0 t1 t2 t3 (.int .i64 (grow ⟨a, b, c, d⟩ (nth p 0) (nth p 1) (nth p 0) (nth p 1)).x0) (.int .i64 (grow ⟨a, b, c, d⟩ (nth p 0) (nth p 1) (nth p 0) (nth p 1)).y0) (.int .i64 (grow ⟨a, b, c, d⟩ (nth p 0) (nth p 1) (nth p 0) (nth p 1)).x1) (.int .i64 (grow ⟨a, b, c, d⟩ (nth p 0) (nth p 1) (nth p 0) (nth p 1)).y1)
      have HX := hid (HD.out.to (low4 hB3 (Nat.le_refl _) (.int .i64 (grow ⟨a, b, c, d⟩ (nth p 0) (nth p 1) (nth p 0) (nth p 1)).x0) (.int .i64 (grow ⟨a, b, c, d⟩ (nth p 0) (nth p 1) (nth p 0) (nth p 1)).y0) (.int .i64 (grow ⟨a, b, c, d⟩ (nth p 0) (nth p 1) (nth p 0) (nth p 1)).x1) (.int .i64 (grow ⟨a, b, c, d⟩ (nth p 0) (nth p 1) (nth p 0) (nth p 1)).y1)))
      have hn9 := HX.out.n.c0
      go_wp2_with (at_builtin; refine Rg.wpList_append_mine _ rfl (.tmp 104) (.tmp 106) 31 31 rfl (HX.out.o.below (al _)) (Nat.le_trans HX.out.sz (al _).size) 26 i0 _ 32 Tryd.underlying31 HI.out.1 HI.out.2.1 HI.out.2.2.1 HI.out.2.2.2 rfl rfl _ 1 (Rg.flat [(grow ⟨a, b, c, d⟩ (nth p 0) (nth p 1) (nth p 0) (nth p 1))]) rfl (src22k (by simp) (grow ⟨a, b, c, d⟩ (nth p 0) (nth p 1) (nth p 0) (nth p 1))) (by simp only [maxLen]; omega) (by omega) ?_; intro eo ec eb eoff w9 hO9 hB9 _ _; rw [← Rg.flat_append] at hO9; have H9 := hid (od_app (HX.out.to (al _)) hB9 hO9); clear hO9 hB9)
      go_roundg (ni - (k + 1))
      case measure => omega
      case rel => exact ⟨k + 1, _, _, eb, eoff, hlt, rfl, by simp, rfl, by have h9 := H9.out; rw [show (grow ⟨a, b, c, d⟩ (nth p 0) (nth p 1) (nth p 0) (nth p 1)) = Z from HZ.out.symm, rep_snoc] at h9; exact h9⟩
    · have HZ : Hid (Z = (⟨a, b, c, d⟩ : R)) := hid hZ
      clear hZ
      go_wp2_with (go_at_call 27; with_reducible refine Calls.mono (Rg.Rc.refEmpty_any a b c d _) ?_; rintro e w1 ⟨rfl, hb⟩; rw [HE.out]; have HB1 := hid (via (w := wr) (al _) hb); have H1 := hid (HD.out.to HB1.out); clear n0 n1 n2 a0 a1 a2 a3 af; obtain ⟨n0, n1, n2⟩ := id H1.out.n; obtain ⟨a0, a1, a2, a3, af⟩ := id H1.out.s; have H7 := hid ((Rg.Rc.Has4.new (W := wr) (k := wr.heap.size) rfl (.int .i64 a) (.int .i64 b) (.int .i64 c) (.int .i64 d) 26).below hb); obtain ⟨z0, z1, z2, z3, zf⟩ := id H7.out; clear hb)
      go_region
      obtain ⟨wd, hwd⟩ : ∃ wd, wd = w1.drew := ⟨_, rfl⟩
      have HX := hid (HD.out.to (show Below wr.heap.size wr wd by rw [hwd]; exact HB1.out.drew))
      have HT := hid (show Rg.Rc.Has4 wd wr.heap.size (.int .i64 a) (.int .i64 b) (.int .i64 c) (.int .i64 d) by rw [hwd]; exact H7.out.below (Below.refl _ _).drew)
      rw [← hwd]
      clear hwd n0 n1 n2 a0 a1 a2 a3 af z0 z1 z2 z3 zf
      obtain ⟨n0, n1, n2⟩ := id HX.out.n
      obtain ⟨z0, z1, z2, z3, zf⟩ := id HT.out
      go_wp2_with (at_builtin; refine Rg.wpList_append_mine _ rfl (.tmp 104) (.tmp 106) 31 31 rfl (HX.out.o.below (al _)) (Nat.le_trans HX.out.sz (al _).size) 26 i0 _ 32 Tryd.underlying31 HI.out.1 HI.out.2.1 HI.out.2.2.1 HI.out.2.2.2 rfl rfl _ 1 (Rg.flat [(⟨a, b, c, d⟩ : R)]) rfl (src22k (by simp) (⟨a, b, c, d⟩ : R)) (by simp only [maxLen]; omega) (by omega) ?_; intro eo ec eb eoff w9 hO9 hB9 _ _; rw [← Rg.flat_append] at hO9; have H9 := hid (od_app (HX.out.to (al _)) hB9 hO9); clear hO9 hB9)
      go_roundg (ni - (k + 1))
      case measure => omega
      case rel => exact ⟨k + 1, _, _, eb, eoff, hlt, rfl, by simp, rfl, by have h9 := H9.out; rw [show (⟨a, b, c, d⟩ : R) = Z from HZ.out.symm, rep_snoc] at h9; exact h9⟩
    · exact absurd (h6 rfl) (by omega)
    · have HZ : Hid (Z = (⟨a, b, c, d⟩ : R)) := hid hZ
      clear hZ
      go_wp2_with (go_at_call 27; with_reducible refine Calls.mono (Rg.Rc.refEmpty_any a b c d _) ?_; rintro e w1 ⟨rfl, hb⟩; rw [HE.out]; have HB1 := hid (via (w := wr) (al _) hb); have H1 := hid (HD.out.to HB1.out); clear n0 n1 n2 a0 a1 a2 a3 af; obtain ⟨n0, n1, n2⟩ := id H1.out.n; obtain ⟨a0, a1, a2, a3, af⟩ := id H1.out.s; have H7 := hid ((Rg.Rc.Has4.new (W := wr) (k := wr.heap.size) rfl (.int .i64 a) (.int .i64 b) (.int .i64 c) (.int .i64 d) 26).below hb); obtain ⟨z0, z1, z2, z3, zf⟩ := id H7.out; clear hb)
      go_region
      obtain ⟨wd, hwd⟩ : ∃ wd, wd = w1.drew := ⟨_, rfl⟩
      have HX := hid (HD.out.to (show Below wr.heap.size wr wd by rw [hwd]; exact HB1.out.drew))
      have HT := hid (show Rg.Rc.Has4 wd wr.heap.size (.int .i64 a) (.int .i64 b) (.int .i64 c) (.int .i64 d) by rw [hwd]; exact H7.out.below (Below.refl _ _).drew)
      rw [← hwd]
      clear hwd n0 n1 n2 a0 a1 a2 a3 af z0 z1 z2 z3 zf
      obtain ⟨n0, n1, n2⟩ := id HX.out.n
      obtain ⟨z0, z1, z2, z3, zf⟩ := id HT.out
      go_wp2_with (at_builtin; refine Rg.wpList_append_mine _ rfl (.tmp 104) (.tmp 106) 31 31 rfl (HX.out.o.below (al _)) (Nat.le_trans HX.out.sz (al _).size) 26 i0 _ 32 Tryd.underlying31 HI.out.1 HI.out.2.1 HI.out.2.2.1 HI.out.2.2.2 rfl rfl _ 1 (Rg.flat [(⟨a, b, c, d⟩ : R)]) rfl (src22k (by simp) (⟨a, b, c, d⟩ : R)) (by simp only [maxLen]; omega) (by omega) ?_; intro eo ec eb eoff w9 hO9 hB9 _ _; rw [← Rg.flat_append] at hO9; have H9 := hid (od_app (HX.out.to (al _)) hB9 hO9); clear hO9 hB9)
      go_roundg (ni - (k + 1))
      case measure => omega
      case rel => exact ⟨k + 1, _, _, eb, eoff, hlt, rfl, by simp, rfl, by have h9 := H9.out; rw [show (⟨a, b, c, d⟩ : R) = Z from HZ.out.symm, rep_snoc] at h9; exact h9⟩
    · have HZ : Hid (Z = (⟨a, b, c, d⟩ : R)) := hid hZ
      clear hZ
      go_wp2_with (go_at_call 27; with_reducible refine Calls.mono (Rg.Rc.refEmpty_any a b c d _) ?_; rintro e w1 ⟨rfl, hb⟩; rw [HE.out]; have HB1 := hid (via (w := wr) (al _) hb); have H1 := hid (HD.out.to HB1.out); clear n0 n1 n2 a0 a1 a2 a3 af; obtain ⟨n0, n1, n2⟩ := id H1.out.n; obtain ⟨a0, a1, a2, a3, af⟩ := id H1.out.s; have H7 := hid ((Rg.Rc.Has4.new (W := wr) (k := wr.heap.size) rfl (.int .i64 a) (.int .i64 b) (.int .i64 c) (.int .i64 d) 26).below hb); obtain ⟨z0, z1, z2, z3, zf⟩ := id H7.out; clear hb)
      go_region
      obtain ⟨wd, hwd⟩ : ∃ wd, wd = w1.drew := ⟨_, rfl⟩
      have HX := hid (HD.out.to (show Below wr.heap.size wr wd by rw [hwd]; exact HB1.out.drew))
      have HT := hid (show Rg.Rc.Has4 wd wr.heap.size (.int .i64 a) (.int .i64 b) (.int .i64 c) (.int .i64 d) by rw [hwd]; exact H7.out.below (Below.refl _ _).drew)
      rw [← hwd]
      clear hwd n0 n1 n2 a0 a1 a2 a3 af z0 z1 z2 z3 zf
      obtain ⟨n0, n1, n2⟩ := id HX.out.n
      obtain ⟨z0, z1, z2, z3, zf⟩ := id HT.out
      go_wp2_with (at_builtin; refine Rg.wpList_append_mine _ rfl (.tmp 104) (.tmp 106) 31 31 rfl (HX.out.o.below (al _)) (Nat.le_trans HX.out.sz (al _).size) 26 i0 _ 32 Tryd.underlying31 HI.out.1 HI.out.2.1 HI.out.2.2.1 HI.out.2.2.2 rfl rfl _ 1 (Rg.flat [(⟨a, b, c, d⟩ : R)]) rfl (src22k (by simp) (⟨a, b, c, d⟩ : R)) (by simp only [maxLen]; omega) (by omega) ?_; intro eo ec eb eoff w9 hO9 hB9 _ _; rw [← Rg.flat_append] at hO9; have H9 := hid (od_app (HX.out.to (al _)) hB9 hO9); clear hO9 hB9)
      go_roundg (ni - (k + 1))
      case measure => omega
      case rel => exact ⟨k + 1, _, _, eb, eoff, hlt, rfl, by simp, rfl, by have h9 := H9.out; rw [show (⟨a, b, c, d⟩ : R) = Z from HZ.out.symm, rep_snoc] at h9; exact h9⟩
    · have HZ : Hid (Z = (⟨a, b, c, d⟩ : R)) := hid hZ
      clear hZ
      go_wp2_with (go_at_call 27; with_reducible refine Calls.mono (Rg.Rc.refEmpty_any a b c d _) ?_; rintro e w1 ⟨rfl, hb⟩; rw [HE.out]; have HB1 := hid (via (w := wr) (al _) hb); have H1 := hid (HD.out.to HB1.out); clear n0 n1 n2 a0 a1 a2 a3 af; obtain ⟨n0, n1, n2⟩ := id H1.out.n; obtain ⟨a0, a1, a2, a3, af⟩ := id H1.out.s; have H7 := hid ((Rg.Rc.Has4.new (W := wr) (k := wr.heap.size) rfl (.int .i64 a) (.int .i64 b) (.int .i64 c) (.int .i64 d) 26).below hb); obtain ⟨z0, z1, z2, z3, zf⟩ := id H7.out; clear hb)
      go_region
      obtain ⟨wd, hwd⟩ : ∃ wd, wd = w1.drew := ⟨_, rfl⟩
      have HX := hid (HD.out.to (show Below wr.heap.size wr wd by rw [hwd]; exact HB1.out.drew))
      have HT := hid (show Rg.Rc.Has4 wd wr.heap.size (.int .i64 a) (.int .i64 b) (.int .i64 c) (.int .i64 d) by rw [hwd]; exact H7.out.below (Below.refl _ _).drew)
      rw [← hwd]
      clear hwd n0 n1 n2 a0 a1 a2 a3 af z0 z1 z2 z3 zf
      obtain ⟨n0, n1, n2⟩ := id HX.out.n
      obtain ⟨z0, z1, z2, z3, zf⟩ := id HT.out
      go_wp2_with (at_builtin; refine Rg.wpList_append_mine _ rfl (.tmp 104) (.tmp 106) 31 31 rfl (HX.out.o.below (al _)) (Nat.le_trans HX.out.sz (al _).size) 26 i0 _ 32 Tryd.underlying31 HI.out.1 HI.out.2.1 HI.out.2.2.1 HI.out.2.2.2 rfl rfl _ 1 (Rg.flat [(⟨a, b, c, d⟩ : R)]) rfl (src22k (by simp) (⟨a, b, c, d⟩ : R)) (by simp only [maxLen]; omega) (by omega) ?_; intro eo ec eb eoff w9 hO9 hB9 _ _; rw [← Rg.flat_append] at hO9; have H9 := hid (od_app (HX.out.to (al _)) hB9 hO9); clear hO9 hB9)
      go_roundg (ni - (k + 1))
      case measure => omega
      case rel => exact ⟨k + 1, _, _, eb, eoff, hlt, rfl, by simp, rfl, by have h9 := H9.out; rw [show (⟨a, b, c, d⟩ : R) = Z from HZ.out.symm, rep_snoc] at h9; exact h9⟩
    · have HZ : Hid (Z = (tileR ⟨a, b, c, d⟩ (⟨nth p 0, nth p 1, nth p 2, nth p 3⟩ : R))) := hid hZ
      have hpn : np = 4 := hpar
      subst hpn
      clear hZ hpar h6
      rcases hw : winB ⟨a, b, c, d⟩ ⟨nth p 0, nth p 1, nth p 2, nth p 3⟩ with _ | _
      · have HW := hid hw
        have HY := hid (tileR_no hw)
        clear hw
        go_wp2_with (go_at_call 27; with_reducible refine Calls.mono (Rg.Rc.refEmpty_any a b c d _) ?_; rintro e w1 ⟨rfl, hb⟩; rw [HE.out]; have HB1 := hid (via (w := wr) (al _) hb); have H1 := hid (HD.out.to HB1.out); clear n0 n1 n2 a0 a1 a2 a3 af; obtain ⟨n0, n1, n2⟩ := id H1.out.n; obtain ⟨a0, a1, a2, a3, af⟩ := id H1.out.s; have H7 := hid ((Rg.Rc.Has4.new (W := wr) (k := wr.heap.size) rfl (.int .i64 a) (.int .i64 b) (.int .i64 c) (.int .i64 d) 26).below hb); obtain ⟨z0, z1, z2, z3, zf⟩ := id H7.out; clear hb)
        have hS : Sdo wr (w.heap.size + 1) w.heap.size wr.heap.size a b c d 10 w1 := ⟨⟨a0, a1, a2, a3, n0, z0, z1, z2, z3⟩, HB1.out, Nat.le_refl _, _, _, _, _, H7.out⟩
        have HBr := hid HB1.out.drew
        go_region_held3 (fun w' => (w'.cell? ⟨(w.heap.size + 1), 0, none⟩ = some (.int .i64 a) ∧ w'.cell? ⟨(w.heap.size + 1), 1, none⟩ = some (.int .i64 b) ∧ w'.cell? ⟨(w.heap.size + 1), 2, none⟩ = some (.int .i64 c) ∧ w'.cell? ⟨(w.heap.size + 1), 3, none⟩ = some (.int .i64 d) ∧ w'.cell? ⟨w.heap.size, 0, none⟩ = some (.int .i64 10) ∧ w'.cell? ⟨wr.heap.size, 0, none⟩ = some (.int .i64 a) ∧ w'.cell? ⟨wr.heap.size, 1, none⟩ = some (.int .i64 b) ∧ w'.cell? ⟨wr.heap.size, 2, none⟩ = some (.int .i64 c) ∧ w'.cell? ⟨wr.heap.size, 3, none⟩ = some (.int .i64 d)) ∧ Rg.Rc.Rest wr wr.heap.size w') (repeat (first | with_reducible assumption | with_reducible refine sdo_drew ?_ | with_reducible refine sdo_alloc ?_ | with_reducible refine sdo_below ?_ ‹_›)) ((first
          | (go_at_call 31; with_reducible refine Calls.mono (box_any _ _ _ bp ob p _ (HP.out.below (via (w := w) HD.out.low HBr.out)) (by omega)) ?_; rintro e w3 ⟨rfl, hb3⟩; replace HBr := hid (via (w := wr) HBr.out hb3))
          | (go_at_call 18; with_reducible refine Calls.mono (refWithin_any a b c d _ _ _ _ _ HO.out) ?_; rintro e w5 ⟨rfl, hb5⟩; rw [HW.out]; have hq : Sdo wr (w.heap.size + 1) w.heap.size wr.heap.size a b c d 10 w5 := sdo_below (by repeat (first | with_reducible assumption | with_reducible refine sdo_drew ?_ | with_reducible refine sdo_alloc ?_ | with_reducible refine sdo_below ?_ ‹_›)) hb5; obtain ⟨hB3, t0, t1, t2, t3, tf⟩ := sdo_out hq)))
        have HBs := hid hB3
        have hn9 := (HD.out.to hB3).n.c0
        have HT5 := hid (show Rg.Rc.Has4 w5 wr.heap.size (.int .i64 a) (.int .i64 b) (.int .i64 c) (.int .i64 d) from ⟨t0, t1, t2, t3, tf⟩)
        clear t0 t1 t2 t3 tf
        go_wp2_with (first
          | (go_at_call 31; with_reducible refine Calls.mono (box_any _ _ _ bp ob p _ (HP.out.below (via (w := w) HD.out.low HBs.out)) (by omega)) ?_; rintro e w6 ⟨rfl, hb6⟩; replace HBs := hid (via (w := wr) HBs.out hb6); obtain ⟨t0, t1, t2, t3, tf⟩ := id (HT5.out.below hb6); obtain ⟨s0, s1, s2, s3⟩ := Rg.Rc.set4 t0 t1 t2 t3 (.int .i64 (nth p 0)) (.int .i64 (nth p 1)) (.int .i64 (nth p 2)) (.int .i64 (nth p 3)); have HX := hid (HD.out.to (low4 HBs.out (Nat.le_refl _) (.int .i64 (nth p 0)) (.int .i64 (nth p 1)) (.int .i64 (nth p 2)) (.int .i64 (nth p 3)))); have hn9 := HX.out.n.c0; clear hb6)
          | (at_builtin; refine Rg.wpList_append_mine _ rfl (.tmp 104) (.tmp 106) 31 31 rfl (HX.out.o.below (al _)) (Nat.le_trans HX.out.sz (al _).size) 26 i0 _ 32 Tryd.underlying31 HI.out.1 HI.out.2.1 HI.out.2.2.1 HI.out.2.2.2 rfl rfl _ 1 (Rg.flat [(⟨nth p 0, nth p 1, nth p 2, nth p 3⟩ : R)]) rfl (src22k (by simp) (⟨nth p 0, nth p 1, nth p 2, nth p 3⟩ : R)) (by simp only [maxLen]; omega) (by omega) ?_; intro eo ec eb eoff w9 hO9 hB9 _ _; rw [← Rg.flat_append] at hO9; have H9 := hid (od_app (HX.out.to (al _)) hB9 hO9); clear hO9 hB9))
        go_roundg (ni - (k + 1))
        case measure => omega
        case rel => exact ⟨k + 1, _, _, eb, eoff, hlt, rfl, by simp, rfl, by have h9 := H9.out; rw [show (⟨nth p 0, nth p 1, nth p 2, nth p 3⟩ : R) = Z from (HZ.out.trans HY.out).symm, rep_snoc] at h9; exact h9⟩
      · have HW := hid hw
        have HY := hid (tileR_yes hw)
        clear hw
        go_wp2_with (go_at_call 27; with_reducible refine Calls.mono (Rg.Rc.refEmpty_any a b c d _) ?_; rintro e w1 ⟨rfl, hb⟩; rw [HE.out]; have HB1 := hid (via (w := wr) (al _) hb); have H1 := hid (HD.out.to HB1.out); clear n0 n1 n2 a0 a1 a2 a3 af; obtain ⟨n0, n1, n2⟩ := id H1.out.n; obtain ⟨a0, a1, a2, a3, af⟩ := id H1.out.s; have H7 := hid ((Rg.Rc.Has4.new (W := wr) (k := wr.heap.size) rfl (.int .i64 a) (.int .i64 b) (.int .i64 c) (.int .i64 d) 26).below hb); obtain ⟨z0, z1, z2, z3, zf⟩ := id H7.out; clear hb)
        have hS : Sdo wr (w.heap.size + 1) w.heap.size wr.heap.size a b c d 10 w1 := ⟨⟨a0, a1, a2, a3, n0, z0, z1, z2, z3⟩, HB1.out, Nat.le_refl _, _, _, _, _, H7.out⟩
        have HBr := hid HB1.out.drew
        go_region_held3 (fun w' => (w'.cell? ⟨(w.heap.size + 1), 0, none⟩ = some (.int .i64 a) ∧ w'.cell? ⟨(w.heap.size + 1), 1, none⟩ = some (.int .i64 b) ∧ w'.cell? ⟨(w.heap.size + 1), 2, none⟩ = some (.int .i64 c) ∧ w'.cell? ⟨(w.heap.size + 1), 3, none⟩ = some (.int .i64 d) ∧ w'.cell? ⟨w.heap.size, 0, none⟩ = some (.int .i64 10) ∧ w'.cell? ⟨wr.heap.size, 0, none⟩ = some (.int .i64 a) ∧ w'.cell? ⟨wr.heap.size, 1, none⟩ = some (.int .i64 b) ∧ w'.cell? ⟨wr.heap.size, 2, none⟩ = some (.int .i64 c) ∧ w'.cell? ⟨wr.heap.size, 3, none⟩ = some (.int .i64 d)) ∧ Rg.Rc.Rest wr wr.heap.size w') (repeat (first | with_reducible assumption | with_reducible refine sdo_drew ?_ | with_reducible refine sdo_alloc ?_ | with_reducible refine sdo_below ?_ ‹_›)) ((first
          | (go_at_call 31; with_reducible refine Calls.mono (box_any _ _ _ bp ob p _ (HP.out.below (via (w := w) HD.out.low HBr.out)) (by omega)) ?_; rintro e w3 ⟨rfl, hb3⟩; replace HBr := hid (via (w := wr) HBr.out hb3))
          | (go_at_call 18; with_reducible refine Calls.mono (refWithin_any a b c d _ _ _ _ _ HO.out) ?_; rintro e w5 ⟨rfl, hb5⟩; rw [HW.out]; have hq : Sdo wr (w.heap.size + 1) w.heap.size wr.heap.size a b c d 10 w5 := sdo_below (by repeat (first | with_reducible assumption | with_reducible refine sdo_drew ?_ | with_reducible refine sdo_alloc ?_ | with_reducible refine sdo_below ?_ ‹_›)) hb5; obtain ⟨hB3, t0, t1, t2, t3, tf⟩ := sdo_out hq)))
        have HX := hid (HD.out.to hB3)
        have hn9 := HX.out.n.c0
        go_wp2_with (at_builtin; refine Rg.wpList_append_mine _ rfl (.tmp 104) (.tmp 106) 31 31 rfl (HX.out.o.below (al _)) (Nat.le_trans HX.out.sz (al _).size) 26 i0 _ 32 Tryd.underlying31 HI.out.1 HI.out.2.1 HI.out.2.2.1 HI.out.2.2.2 rfl rfl _ 1 (Rg.flat [(⟨a, b, c, d⟩ : R)]) rfl (src22k (by simp) (⟨a, b, c, d⟩ : R)) (by simp only [maxLen]; omega) (by omega) ?_; intro eo ec eb eoff w9 hO9 hB9 _ _; rw [← Rg.flat_append] at hO9; have H9 := hid (od_app (HX.out.to (al _)) hB9 hO9); clear hO9 hB9)
        go_roundg (ni - (k + 1))
        case measure => omega
        case rel => exact ⟨k + 1, _, _, eb, eoff, hlt, rfl, by simp, rfl, by have h9 := H9.out; rw [show (⟨a, b, c, d⟩ : R) = Z from (HZ.out.trans HY.out).symm, rep_snoc] at h9; exact h9⟩
    · have HZ : Hid (Z = (join ⟨a, b, c, d⟩ (grow (moveR ⟨a, b, c, d⟩ (-(nth p 0)) (-(nth p 1))) (nth p 2) (nth p 3) (nth p 2) (nth p 3)))) := hid hZ
      obtain ⟨⟨q1, q2⟩, q3, q4⟩ := HPr.out.m (Or.inr rfl)
      obtain ⟨⟨q5, q6⟩, q7, q8⟩ := HPr.out.s rfl
      have wr0 : IntKind.i64.wrap (-nth p 0) = -nth p 0 := by rw [IntKind.wrap_i64]; omega
      have wr1 : IntKind.i64.wrap (-nth p 1) = -nth p 1 := by rw [IntKind.wrap_i64]; omega
      have hpn : np = 8 := hpar
      obtain ⟨rfl, c0⟩ := vi_at HP.out (nth_get (show 0 < p.length by omega))
      obtain ⟨-, c1⟩ := vi_at HP.out (nth_get (show 1 < p.length by omega))
      obtain ⟨-, c2⟩ := vi_at HP.out (nth_get (show 2 < p.length by omega))
      obtain ⟨-, c3⟩ := vi_at HP.out (nth_get (show 3 < p.length by omega))
      rw [Nat.add_zero] at c0
      have hbp : bp < w.heap.size := World.block_lt_of_cell? _ _ c0
      have HPC := hid (And.intro c0 (And.intro c1 (And.intro c2 c3)))
      subst hpn
      clear hZ hpar h6 c0 c1 c2 c3
      go_wp2_with (go_at_call 27; with_reducible refine Calls.mono (Rg.Rc.refEmpty_any a b c d _) ?_; rintro e w1 ⟨rfl, hb⟩; rw [HE.out]; have HB1 := hid (via (w := wr) (al _) hb); have H1 := hid (HD.out.to HB1.out); clear n0 n1 n2 a0 a1 a2 a3 af; obtain ⟨n0, n1, n2⟩ := id H1.out.n; obtain ⟨a0, a1, a2, a3, af⟩ := id H1.out.s; have H7 := hid ((Rg.Rc.Has4.new (W := wr) (k := wr.heap.size) rfl (.int .i64 a) (.int .i64 b) (.int .i64 c) (.int .i64 d) 26).below hb); obtain ⟨z0, z1, z2, z3, zf⟩ := id H7.out; clear hb)
      go_region
      go_wp2
      have hS : Sd4 wr (w.heap.size + 1) wr.heap.size a b c d bp ob (nth p) w1.drew := sd4_drew ⟨⟨a0, a1, a2, a3, cell_below H1.out.low HPC.out.1, cell_below H1.out.low HPC.out.2.1, cell_below H1.out.low HPC.out.2.2.1, cell_below H1.out.low HPC.out.2.2.2⟩, HB1.out, Nat.le_refl _, _, _, _, _, H7.out⟩
      go_region_held3 (fun w' => (w'.cell? ⟨(w.heap.size + 1), 0, none⟩ = some (.int .i64 a) ∧ w'.cell? ⟨(w.heap.size + 1), 1, none⟩ = some (.int .i64 b) ∧ w'.cell? ⟨(w.heap.size + 1), 2, none⟩ = some (.int .i64 c) ∧ w'.cell? ⟨(w.heap.size + 1), 3, none⟩ = some (.int .i64 d) ∧ w'.cell? ⟨bp, ob, none⟩ = some (.int .i64 (nth p 0)) ∧ w'.cell? ⟨bp, ob + 1, none⟩ = some (.int .i64 (nth p 1)) ∧ w'.cell? ⟨bp, ob + 2, none⟩ = some (.int .i64 (nth p 2)) ∧ w'.cell? ⟨bp, ob + 3, none⟩ = some (.int .i64 (nth p 3))) ∧ Rg.Rc.Rest wr wr.heap.size w') (repeat (first | with_reducible assumption | with_reducible refine sd4_drew ?_ | with_reducible refine sd4_alloc ?_ | with_reducible refine sd4_set (by omega) (by omega) ?_ | with_reducible refine sd4_below ?_ ‹_›)) ((first
        | (go_at_call 28; with_reducible refine Calls.mono (Rg.Rc.refMove_any a b c d (-(nth p 0)) (-(nth p 1)) _ HO.out (by omega) (by omega)) ?_; rintro e w3 ⟨rfl, hb3⟩)
        | (go_at_call 29; with_reducible refine Calls.mono (Rg.Rc.refGrow_any (moveR ⟨a, b, c, d⟩ (-(nth p 0)) (-(nth p 1))).x0 (moveR ⟨a, b, c, d⟩ (-(nth p 0)) (-(nth p 1))).y0 (moveR ⟨a, b, c, d⟩ (-(nth p 0)) (-(nth p 1))).x1 (moveR ⟨a, b, c, d⟩ (-(nth p 0)) (-(nth p 1))).y1 (nth p 2) (nth p 3) (nth p 2) (nth p 3) _ (Rg.Num.ok_moveR _ _ _) (by omega) (by omega) (by omega) (by omega)) ?_; rintro e w4 ⟨rfl, hb4⟩)
        | (go_at_call 19; with_reducible refine Calls.mono (Rg.Rc.refJoin_any a b c d (grow (moveR ⟨a, b, c, d⟩ (-(nth p 0)) (-(nth p 1))) (nth p 2) (nth p 3) (nth p 2) (nth p 3)).x0 (grow (moveR ⟨a, b, c, d⟩ (-(nth p 0)) (-(nth p 1))) (nth p 2) (nth p 3) (nth p 2) (nth p 3)).y0 (grow (moveR ⟨a, b, c, d⟩ (-(nth p 0)) (-(nth p 1))) (nth p 2) (nth p 3) (nth p 2) (nth p 3)).x1 (grow (moveR ⟨a, b, c, d⟩ (-(nth p 0)) (-(nth p 1))) (nth p 2) (nth p 3) (nth p 2) (nth p 3)).y1 _) ?_; rintro e w5 ⟨rfl, hb5⟩; have hq : Sd4 wr (w.heap.size + 1) wr.heap.size a b c d bp ob (nth p) w5 := sd4_below (by repeat (first | with_reducible assumption | with_reducible refine sd4_drew ?_ | with_reducible refine sd4_alloc ?_ | with_reducible refine sd4_below ?_ ‹_›)) hb5; obtain ⟨hB3, u0, u1, u2, u3, t0, t1, t2, t3, tf⟩ := sd4_out hq)))
      obtain ⟨s0, s1, s2, s3⟩ := Rg.Rc.set4 t0 t1 t2 t3 (.int .i64 (join ⟨a, b, c, d⟩ (grow (moveR ⟨a, b, c, d⟩ (-(nth p 0)) (-(nth p 1))) (nth p 2) (nth p 3) (nth p 2) (nth p 3))).x0) (.int .i64 (join ⟨a, b, c, d⟩ (grow (moveR ⟨a, b, c, d⟩ (-(nth p 0)) (-(nth p 1))) (nth p 2) (nth p 3) (nth p 2) (nth p 3))).y0) (.int .i64 (join ⟨a, b, c, d⟩ (grow (moveR ⟨a, b, c, d⟩ (-(nth p 0)) (-(nth p 1))) (nth p 2) (nth p 3) (nth p 2) (nth p 3))).x1) (.int .i64 (join ⟨a, b, c, d⟩ (grow (moveR ⟨a, b, c, d⟩ (-(nth p 0)) (-(nth p 1))) (nth p 2) (nth p 3) (nth p 2) (nth p 3))).y1)
      have HX := hid (HD.out.to (low4 hB3 (Nat.le_refl _) (.int .i64 (join ⟨a, b, c, d⟩ (grow (moveR ⟨a, b, c, d⟩ (-(nth p 0)) (-(nth p 1))) (nth p 2) (nth p 3) (nth p 2) (nth p 3))).x0) (.int .i64 (join ⟨a, b, c, d⟩ (grow (moveR ⟨a, b, c, d⟩ (-(nth p 0)) (-(nth p 1))) (nth p 2) (nth p 3) (nth p 2) (nth p 3))).y0) (.int .i64 (join ⟨a, b, c, d⟩ (grow (moveR ⟨a, b, c, d⟩ (-(nth p 0)) (-(nth p 1))) (nth p 2) (nth p 3) (nth p 2) (nth p 3))).x1) (.int .i64 (join ⟨a, b, c, d⟩ (grow (moveR ⟨a, b, c, d⟩ (-(nth p 0)) (-(nth p 1))) (nth p 2) (nth p 3) (nth p 2) (nth p 3))).y1)))
      have hn9 := HX.out.n.c0
      go_wp2_with (at_builtin; refine Rg.wpList_append_mine _ rfl (.tmp 104) (.tmp 106) 31 31 rfl (HX.out.o.below (al _)) (Nat.le_trans HX.out.sz (al _).size) 26 i0 _ 32 Tryd.underlying31 HI.out.1 HI.out.2.1 HI.out.2.2.1 HI.out.2.2.2 rfl rfl _ 1 (Rg.flat [(join ⟨a, b, c, d⟩ (grow (moveR ⟨a, b, c, d⟩ (-(nth p 0)) (-(nth p 1))) (nth p 2) (nth p 3) (nth p 2) (nth p 3)))]) rfl (src22k (by simp) (join ⟨a, b, c, d⟩ (grow (moveR ⟨a, b, c, d⟩ (-(nth p 0)) (-(nth p 1))) (nth p 2) (nth p 3) (nth p 2) (nth p 3)))) (by simp only [maxLen]; omega) (by omega) ?_; intro eo ec eb eoff w9 hO9 hB9 _ _; rw [← Rg.flat_append] at hO9; have H9 := hid (od_app (HX.out.to (al _)) hB9 hO9); clear hO9 hB9)
      go_roundg (ni - (k + 1))
      case measure => omega
      case rel => exact ⟨k + 1, _, _, eb, eoff, hlt, rfl, by simp, rfl, by have h9 := H9.out; rw [show (join ⟨a, b, c, d⟩ (grow (moveR ⟨a, b, c, d⟩ (-(nth p 0)) (-(nth p 1))) (nth p 2) (nth p 3) (nth p 2) (nth p 3))) = Z from HZ.out.symm, rep_snoc] at h9; exact h9⟩
    · have HZ : Hid (Z = (meet ⟨a, b, c, d⟩ ⟨nth p 0, nth p 1, nth p 2, nth p 3⟩)) := hid hZ
      have hpn : np = 4 := hpar
      subst hpn
      clear hZ hpar h6
      go_wp2_with (go_at_call 27; with_reducible refine Calls.mono (Rg.Rc.refEmpty_any a b c d _) ?_; rintro e w1 ⟨rfl, hb⟩; rw [HE.out]; have HB1 := hid (via (w := wr) (al _) hb); have H1 := hid (HD.out.to HB1.out); clear n0 n1 n2 a0 a1 a2 a3 af; obtain ⟨n0, n1, n2⟩ := id H1.out.n; obtain ⟨a0, a1, a2, a3, af⟩ := id H1.out.s; have H7 := hid ((Rg.Rc.Has4.new (W := wr) (k := wr.heap.size) rfl (.int .i64 a) (.int .i64 b) (.int .i64 c) (.int .i64 d) 26).below hb); obtain ⟨z0, z1, z2, z3, zf⟩ := id H7.out; clear hb)
      have hS : Sd0 wr (w.heap.size + 1) wr.heap.size a b c d w1 := ⟨⟨a0, a1, a2, a3⟩, HB1.out, Nat.le_refl _, _, _, _, _, H7.out⟩
      have HBr := hid HB1.out.drew
      go_region_held3 (fun w' => (w'.cell? ⟨(w.heap.size + 1), 0, none⟩ = some (.int .i64 a) ∧ w'.cell? ⟨(w.heap.size + 1), 1, none⟩ = some (.int .i64 b) ∧ w'.cell? ⟨(w.heap.size + 1), 2, none⟩ = some (.int .i64 c) ∧ w'.cell? ⟨(w.heap.size + 1), 3, none⟩ = some (.int .i64 d)) ∧ Rg.Rc.Rest wr wr.heap.size w') (repeat (first | with_reducible assumption | with_reducible refine sd0_drew ?_ | with_reducible refine sd0_alloc ?_ | with_reducible refine sd0_set (by omega) ?_ | with_reducible refine sd0_below ?_ ‹_›)) ((first
        | (go_at_call 31; with_reducible refine Calls.mono (box_any _ _ _ bp ob p _ (HP.out.below (via (w := w) HD.out.low HBr.out)) (by omega)) ?_; rintro e w3 ⟨rfl, hb3⟩; replace HBr := hid (via (w := wr) HBr.out hb3))
        | (go_at_call 30; with_reducible refine Calls.mono (Rg.Rc.refMeet_any a b c d _ _ _ _ _) ?_; rintro e w5 ⟨rfl, hb5⟩; have hq : Sd0 wr (w.heap.size + 1) wr.heap.size a b c d w5 := sd0_below (by repeat (first | with_reducible assumption | with_reducible refine sd0_drew ?_ | with_reducible refine sd0_alloc ?_ | with_reducible refine sd0_below ?_ ‹_›)) hb5; obtain ⟨hB3, u0, u1, u2, u3, t0, t1, t2, t3, tf⟩ := sd0_out hq)))
      obtain ⟨s0, s1, s2, s3⟩ := Rg.Rc.set4 t0 t1 t2 t3 (.int .i64 (meet ⟨a, b, c, d⟩ ⟨nth p 0, nth p 1, nth p 2, nth p 3⟩).x0) (.int .i64 (meet ⟨a, b, c, d⟩ ⟨nth p 0, nth p 1, nth p 2, nth p 3⟩).y0) (.int .i64 (meet ⟨a, b, c, d⟩ ⟨nth p 0, nth p 1, nth p 2, nth p 3⟩).x1) (.int .i64 (meet ⟨a, b, c, d⟩ ⟨nth p 0, nth p 1, nth p 2, nth p 3⟩).y1)
      have HX := hid (HD.out.to (low4 hB3 (Nat.le_refl _) (.int .i64 (meet ⟨a, b, c, d⟩ ⟨nth p 0, nth p 1, nth p 2, nth p 3⟩).x0) (.int .i64 (meet ⟨a, b, c, d⟩ ⟨nth p 0, nth p 1, nth p 2, nth p 3⟩).y0) (.int .i64 (meet ⟨a, b, c, d⟩ ⟨nth p 0, nth p 1, nth p 2, nth p 3⟩).x1) (.int .i64 (meet ⟨a, b, c, d⟩ ⟨nth p 0, nth p 1, nth p 2, nth p 3⟩).y1)))
      have hn9 := HX.out.n.c0
      go_wp2_with (at_builtin; refine Rg.wpList_append_mine _ rfl (.tmp 104) (.tmp 106) 31 31 rfl (HX.out.o.below (al _)) (Nat.le_trans HX.out.sz (al _).size) 26 i0 _ 32 Tryd.underlying31 HI.out.1 HI.out.2.1 HI.out.2.2.1 HI.out.2.2.2 rfl rfl _ 1 (Rg.flat [(meet ⟨a, b, c, d⟩ ⟨nth p 0, nth p 1, nth p 2, nth p 3⟩)]) rfl (src22k (by simp) (meet ⟨a, b, c, d⟩ ⟨nth p 0, nth p 1, nth p 2, nth p 3⟩)) (by simp only [maxLen]; omega) (by omega) ?_; intro eo ec eb eoff w9 hO9 hB9 _ _; rw [← Rg.flat_append] at hO9; have H9 := hid (od_app (HX.out.to (al _)) hB9 hO9); clear hO9 hB9)
      go_roundg (ni - (k + 1))
      case measure => omega
      case rel => exact ⟨k + 1, _, _, eb, eoff, hlt, rfl, by simp, rfl, by have h9 := H9.out; rw [show (meet ⟨a, b, c, d⟩ ⟨nth p 0, nth p 1, nth p 2, nth p 3⟩) = Z from HZ.out.symm, rep_snoc] at h9; exact h9⟩
end Go.Proofs.YtamojciiacmjaaaDoor
