/- What a node needs of each input, by the document: contracts. -/
import Derived.Test.YtamojciiacmjaaaDoorNdOf
import Derived.Test.YtamojciiacmjaaaDoorRgRRefs
namespace Go.Proofs.YtamojciiacmjaaaDoor
open Num Go.RowKit
open Rg.Num (R empB orN nil moveR grow meet join mvd mx mn cutR Ok Pr boxQ hasB)
set_option linter.unusedVariables false
set_option linter.unusedSimpArgs false

theorem drew_cell {w : World} {a : Addr} {v : Value} (h : w.cell? a = some v) : w.drew.cell? a = some v := h
/-- a right node -/
structure Rn (op : Int) (l p : List Int) : Prop where
  k : 1 ≤ op ∧ op ≤ 12
  n : op = 6 → l = []
  pl : p.length = parI op
  pr : Pr op (nth p)
theorem rn_e {op : Int} {l p : List Int} (h : Rn op l p) (want : R) : List.replicate l.length (needE op (nth p) want) = List.replicate l.length (needA op (nth p) want) := by
  by_cases h6 : op = 6
  · rw [h.n h6]; rfl
  · rw [needE_no h6]

set_option maxRecDepth 100000 in
set_option maxHeartbeats 1000000 in
theorem refWithin_any (a b c d p q r s : Int) (w : World) (ho : Ok ⟨a, b, c, d⟩) :
    Calls Tryd.prog 18 #[.agg #[.int .i64 a, .int .i64 b, .int .i64 c, .int .i64 d], .agg #[.int .i64 p, .int .i64 q, .int .i64 r, .int .i64 s]] w fun e w' => e = .returned (.bool (winB ⟨a, b, c, d⟩ ⟨p, q, r, s⟩)) ∧ Below w.heap.size w w' := by
  obtain ⟨⟨o0, o1⟩, ⟨o2, o3⟩, ⟨o4, o5⟩, o6, o7⟩ := id ho
  dsimp only at o0 o1 o2 o3 o4 o5 o6 o7
  have H0 := hid (Rg.s8_new w a b c d p q r s)
  have HW : Hid (winB ⟨a, b, c, d⟩ ⟨p, q, r, s⟩ = (empB ⟨a, b, c, d⟩ || (hasB ⟨p, q, r, s⟩ a b && hasB ⟨p, q, r, s⟩ (c - 1) (d - 1)))) := hid rfl
  have HE : Hid (empB ⟨a, b, c, d⟩ = empB ⟨a, b, c, d⟩) := hid rfl
  rcases he : empB ⟨a, b, c, d⟩ with _ | _
  · have HE := hid he
    rcases h1 : hasB ⟨p, q, r, s⟩ a b with _ | _
    · have H1 := hid h1
      have HV : Hid (winB ⟨a, b, c, d⟩ ⟨p, q, r, s⟩ = false) := hid (by rw [HW.out, he, h1]; rfl)
      clear he h1 HW
      go_enter Tryd.func18, Tryd.ntmps18
      go_wp2_with (first
        | (go_at_call 27; with_reducible refine Calls.mono (Rg.Rc.refEmpty_any a b c d _) ?_; rintro e w1 ⟨rfl, hb⟩; rw [HE.out]; have HB := hid (Rg.s8_below H0.out hb); obtain ⟨⟨c0, c1, c2, c3, d0, d1, d2, d3⟩, -⟩ := HB.out; clear hb)
        | (go_at_call 40; with_reducible refine Calls.mono (Rg.Rc.has_any p q r s a b _) ?_; rintro e w2 ⟨rfl, hb⟩; rw [H1.out]; have HB2 := hid (Rg.s8_below HB.out hb); clear hb))
      go_ret
      exact ⟨ret_bool HV.out.symm, HB2.out.2⟩
    · have H1 := hid h1
      rcases h2 : hasB ⟨p, q, r, s⟩ (c - 1) (d - 1) with _ | _
      all_goals (
        have H2 := hid h2
        have HV := hid (show winB ⟨a, b, c, d⟩ ⟨p, q, r, s⟩ = _ by rw [HW.out, he, h1, h2]; first | done | rfl)
        clear he h1 h2 HW
        go_enter Tryd.func18, Tryd.ntmps18
        go_wp2_with (first
          | (go_at_call 27; with_reducible refine Calls.mono (Rg.Rc.refEmpty_any a b c d _) ?_; rintro e w1 ⟨rfl, hb⟩; rw [HE.out]; have HB := hid (Rg.s8_below H0.out hb); obtain ⟨⟨c0, c1, c2, c3, d0, d1, d2, d3⟩, -⟩ := HB.out; clear hb)
          | (go_at_call 40; with_reducible refine Calls.mono (Rg.Rc.has_any p q r s a b _) ?_; rintro e w2 ⟨rfl, hb⟩; rw [H1.out]; clear c0 c1 c2 c3 d0 d1 d2 d3; have HB2 := hid (Rg.s8_below HB.out hb); obtain ⟨⟨c0, c1, c2, c3, d0, d1, d2, d3⟩, -⟩ := HB2.out; clear hb H1)
          | (go_at_call 40; with_reducible refine Calls.mono (Rg.Rc.has_any p q r s (c - 1) (d - 1) _) ?_; rintro e w3 ⟨rfl, hb⟩; rw [H2.out]; have HB3 := hid (Rg.s8_below HB2.out hb); clear hb))
        go_ret
        exact ⟨ret_bool HV.out.symm, HB3.out.2⟩)
  · have HE := hid he
    have HV : Hid (winB ⟨a, b, c, d⟩ ⟨p, q, r, s⟩ = true) := hid (by rw [HW.out, he]; rfl)
    clear he HW
    go_enter Tryd.func18, Tryd.ntmps18
    go_wp2_with (go_at_call 27; with_reducible refine Calls.mono (Rg.Rc.refEmpty_any a b c d _) ?_; rintro e w1 ⟨rfl, hb⟩; rw [HE.out]; have HB := hid (Rg.s8_below H0.out hb); clear hb)
    go_ret
    exact ⟨ret_bool HV.out.symm, HB.out.2⟩

abbrev Sb4 (w : World) (k : Nat) (bp ob : Nat) (q : Nat → Int) (w' : World) : Prop := (w'.cell? ⟨bp, ob, none⟩ = some (.int .i64 (q 0)) ∧ w'.cell? ⟨bp, ob + 1, none⟩ = some (.int .i64 (q 1)) ∧ w'.cell? ⟨bp, ob + 2, none⟩ = some (.int .i64 (q 2)) ∧ w'.cell? ⟨bp, ob + 3, none⟩ = some (.int .i64 (q 3))) ∧ Rg.Rc.Rest w k w'
theorem sb4_below {w : World} {k : Nat} {bp ob : Nat} {q : Nat → Int} {w1 w2 : World} (h : Sb4 w k bp ob q w1) (hb : Below w1.heap.size w1 w2) : Sb4 w k bp ob q w2 := by
  obtain ⟨⟨h0, h1, h2, h3⟩, hB, hk, x0, x1, x2, x3, hR⟩ := h
  exact ⟨⟨cell_below hb h0, cell_below hb h1, cell_below hb h2, cell_below hb h3⟩, via hB hb, hk, x0, x1, x2, x3, hR.below hb⟩
theorem sb4_drew {w : World} {k : Nat} {bp ob : Nat} {q : Nat → Int} {w1 : World} (h : Sb4 w k bp ob q w1) : Sb4 w k bp ob q w1.drew := sb4_below h (Below.refl _ _).drew
theorem sb4_alloc {w : World} {k : Nat} {bp ob : Nat} {q : Nat → Int} {w1 : World} {o : Obj} (h : Sb4 w k bp ob q w1) : Sb4 w k bp ob q (w1.alloc o) := sb4_below h (al _)
theorem sb4_set {w : World} {k : Nat} {bp ob : Nat} {q : Nat → Int} {w1 : World} {x0 x1 x2 x3 : Value} (ne' : k ≠ bp) (h : Sb4 w k bp ob q w1) : Sb4 w k bp ob q ((((w1.setCell ⟨k, 0, none⟩ x0).setCell ⟨k, 1, none⟩ x1).setCell ⟨k, 2, none⟩ x2).setCell ⟨k, 3, none⟩ x3) := by
  obtain ⟨⟨h0, h1, h2, h3⟩, hB, hk, y0, y1, y2, y3, hR⟩ := h
  obtain ⟨s0, s1, s2, s3⟩ := Rg.Rc.set4 hR.c0 hR.c1 hR.c2 hR.c3 x0 x1 x2 x3
  refine ⟨⟨?_, ?_, ?_, ?_⟩, low4 hB hk _ _ _ _, hk, x0, x1, x2, x3, s0, s1, s2, s3, fun o => ?_⟩
  · simp [World.cell?_setCell_far, ne', h0]
  · simp [World.cell?_setCell_far, ne', h1]
  · simp [World.cell?_setCell_far, ne', h2]
  · simp [World.cell?_setCell_far, ne', h3]
  · simp [World.frozen?_setCell, hR.fz o]
theorem sb4_out {w : World} {k : Nat} {bp ob : Nat} {q : Nat → Int} {w1 : World} (h : Sb4 w k bp ob q w1) : Below w.heap.size w w1 ∧ ∃ x0 x1 x2 x3, Rg.Rc.Has4 w1 k x0 x1 x2 x3 := by
  obtain ⟨-, hB, -, hR⟩ := h
  exact ⟨hB, hR⟩

set_option maxRecDepth 100000 in
set_option maxHeartbeats 1000000 in
theorem box_any (ap : Option Addr) (np cp bp ob : Nat) (p : List Int) (w : World) (hp : Vi w ap np cp bp ob p) (hn : 4 ≤ np) :
    Calls Tryd.prog 31 #[.slice ap np cp, .int .i64 0] w fun e w' => e = .returned (.agg #[.int .i64 (nth p 0), .int .i64 (nth p 1), .int .i64 (nth p 2), .int .i64 (nth p 3)]) ∧ Below w.heap.size w w' := by
  have hl := vi_len hp
  obtain ⟨rfl, c0⟩ := vi_at hp (nth_get (show 0 < p.length by omega))
  obtain ⟨-, c1⟩ := vi_at hp (nth_get (show 1 < p.length by omega))
  obtain ⟨-, c2⟩ := vi_at hp (nth_get (show 2 < p.length by omega))
  obtain ⟨-, c3⟩ := vi_at hp (nth_get (show 3 < p.length by omega))
  rw [Nat.add_zero] at c0
  have hbp : bp < w.heap.size := World.block_lt_of_cell? _ _ c0
  have h0 : 0 < np := by omega
  have h1 : 1 < np := by omega
  have h2 : 2 < np := by omega
  have h3 : 3 < np := by omega
  have i1 : (1 : Int) < (np : Int) := by omega
  have i2 : (2 : Int) < (np : Int) := by omega
  have i3 : (3 : Int) < (np : Int) := by omega
  have k1 : IntKind.i64.wrap 1 = 1 := by rw [IntKind.wrap_i64]; rfl
  have k2 : IntKind.i64.wrap 2 = 2 := by rw [IntKind.wrap_i64]; rfl
  have k3 : IntKind.i64.wrap 3 = 3 := by rw [IntKind.wrap_i64]; rfl
  have j1 : ¬ ((np : Int) ≤ 1) := by omega
  have j2 : ¬ ((np : Int) ≤ 2) := by omega
  have j3 : ¬ ((np : Int) ≤ 3) := by omega
  have hb := al (W := w) (.cells #[.int .i64 0, .int .i64 0, .int .i64 0, .int .i64 0] 26)
  have hS : Sb4 w w.heap.size bp ob (nth p) (w.alloc (.cells #[.int .i64 0, .int .i64 0, .int .i64 0, .int .i64 0] 26)) := ⟨⟨cell_below hb c0, cell_below hb c1, cell_below hb c2, cell_below hb c3⟩, hb, Nat.le_refl _, _, _, _, _, Rg.Rc.Has4.new rfl _ _ _ _ _⟩
  clear hp c0 c1 c2 c3 hb
  go_enter Tryd.func31, Tryd.ntmps31
  go_wp2
  generalize (w.alloc (.cells #[.int .i64 0, .int .i64 0, .int .i64 0, .int .i64 0] 26)) = W at *
  obtain ⟨hB9, y0, y1, y2, y3, z0, z1, z2, z3, zf⟩ := sb4_out hS
  go_region_held3 (fun w' => (w'.cell? ⟨bp, ob, none⟩ = some (.int .i64 (nth p 0)) ∧ w'.cell? ⟨bp, ob + 1, none⟩ = some (.int .i64 (nth p 1)) ∧ w'.cell? ⟨bp, ob + 2, none⟩ = some (.int .i64 (nth p 2)) ∧ w'.cell? ⟨bp, ob + 3, none⟩ = some (.int .i64 (nth p 3))) ∧ Rg.Rc.Rest w w.heap.size w') (repeat (first | with_reducible assumption | with_reducible refine sb4_drew ?_ | with_reducible refine sb4_alloc ?_ | with_reducible refine sb4_set (by omega) ?_ | with_reducible refine sb4_below ?_ ‹_›)) (fail)
  go_wp2
  obtain ⟨s0, s1, s2, s3⟩ := Rg.Rc.set4 z0 z1 z2 z3 (.int .i64 (nth p 0)) (.int .i64 (nth p 1)) (.int .i64 (nth p 2)) (.int .i64 (nth p 3))
  replace s0 := drew_cell s0
  replace s1 := drew_cell s1
  replace s2 := drew_cell s2
  replace s3 := drew_cell s3
  refine bodyPost_ret (v := .agg #[.int .i64 (nth p 0), .int .i64 (nth p 1), .int .i64 (nth p 2), .int .i64 (nth p 3)]) (by simp [results, Tryd.results31, go_sem, s0, s1, s2, s3]) rfl ⟨rfl, ?_⟩
  exact (low4 hB9 (Nat.le_refl _) _ _ _ _).drew
end Go.Proofs.YtamojciiacmjaaaDoor
