/- What a node needs of each input, as the program makes it: contracts. -/
import Derived.Test.YtamojciiacmjaaaDoorNdNum
import Derived.Test.YtamojciiacmjaaaDoorNdPar
import Derived.Test.YtamojciiacmjaaaDoorRgRect
import Derived.Deep.RegionHeld3
namespace Go.Proofs.YtamojciiacmjaaaDoor
open Num Go.RowKit
open Rg.Num (R empB orN nil moveR grow meet join mvd mx mn cutR Ok Pr boxQ)
set_option linter.unusedVariables false
set_option linter.unusedSimpArgs false

theorem winP_eq (a b : R) : Rg.winP a b = winB a b := by
  rw [Bool.eq_iff_iff, win_iff]
  unfold Rg.winP Ins
  rcases he : empB a with _ | _
  · obtain ⟨h1, h2⟩ := Rg.Num.of_some he
    rw [Bool.false_or, decide_eq_true_iff]
    obtain ⟨a0, a1, a2, a3⟩ := a
    obtain ⟨b0, b1, b2, b3⟩ := b
    unfold meet
    dsimp only at *
    constructor
    · intro h
      refine Or.inr ?_
      rcases Rg.Num.orN_or ⟨mx a0 b0, mx a1 b1, mn a2 b2, mn a3 b3⟩ with e | e
      · rw [e] at h
        unfold nil at h
        simp only [R.mk.injEq] at h
        omega
      · rw [e] at h
        simp only [R.mk.injEq] at h
        unfold mx mn at h
        omega
    · rintro (h | h)
      · cases h
      · have e1 : mx a0 b0 = a0 := by unfold mx; omega
        have e2 : mx a1 b1 = a1 := by unfold mx; omega
        have e3 : mn a2 b2 = a2 := by unfold mn; omega
        have e4 : mn a3 b3 = a3 := by unfold mn; omega
        rw [e1, e2, e3, e4, Rg.Num.orN_no he]
  · simp

/-- what the program answers for each input -/
def needE (op : Int) (q : Nat → Int) (want : R) : R := if op = 6 then nil else needA op q want
theorem needE_no {op : Int} (h : op ≠ 6) (q : Nat → Int) (want : R) : needE op q want = needA op q want := by unfold needE; rw [if_neg h]

/-- what is needed of what is tiled -/
def tileR (want tile : R) : R := if winB want tile = true then want else tile
theorem tileR_yes {want tile : R} (h : winB want tile = true) : tileR want tile = want := by unfold tileR; rw [if_pos h]
theorem tileR_no {want tile : R} (h : winB want tile = false) : tileR want tile = tile := by unfold tileR; rw [if_neg (by simp [h])]
set_option maxRecDepth 100000 in
set_option maxHeartbeats 1000000 in
theorem tile_any (p q r s a b c d : Int) (w : World) :
    Calls Tryd.prog 51 #[.agg #[.int .i64 p, .int .i64 q, .int .i64 r, .int .i64 s], .agg #[.int .i64 a, .int .i64 b, .int .i64 c, .int .i64 d]] w fun e w' => e = .returned (.agg #[.int .i64 (tileR ⟨a, b, c, d⟩ ⟨p, q, r, s⟩).x0, .int .i64 (tileR ⟨a, b, c, d⟩ ⟨p, q, r, s⟩).y0, .int .i64 (tileR ⟨a, b, c, d⟩ ⟨p, q, r, s⟩).x1, .int .i64 (tileR ⟨a, b, c, d⟩ ⟨p, q, r, s⟩).y1]) ∧ Below w.heap.size w w' := by
  obtain ⟨W, hW⟩ : ∃ W, W = ((w.alloc (.cells #[.int .i64 p, .int .i64 q, .int .i64 r, .int .i64 s] 26)).alloc (.cells #[.int .i64 a, .int .i64 b, .int .i64 c, .int .i64 d] 26)).alloc (.cells #[.int .i64 0, .int .i64 0, .int .i64 0, .int .i64 0] 26) := ⟨_, rfl⟩
  have hB : Below w.heap.size w W := by rw [hW]; exact (((Below.refl _ _).alloc (Nat.le_refl _) _).alloc (by simp) _).alloc (by go_size) _
  have h1 : Rg.Rc.Has4 W w.heap.size (.int .i64 p) (.int .i64 q) (.int .i64 r) (.int .i64 s) := by rw [hW]; exact ((Rg.Rc.Has4.new rfl _ _ _ _ _).alloc _).alloc _
  have h2 : Rg.Rc.Has4 W (w.heap.size + 1) (.int .i64 a) (.int .i64 b) (.int .i64 c) (.int .i64 d) := by rw [hW]; exact (Rg.Rc.Has4.new (by simp) _ _ _ _ _).alloc _
  have h3 : Rg.Rc.Has4 W (w.heap.size + 1 + 1) (.int .i64 0) (.int .i64 0) (.int .i64 0) (.int .i64 0) := by rw [hW]; exact Rg.Rc.Has4.new (by simp) _ _ _ _ _
  rw [hW] at hB h1 h2 h3
  have H0 := hid (And.intro hB (And.intro h1 (And.intro h2 h3)))
  have HE := hid (winP_eq ⟨a, b, c, d⟩ ⟨p, q, r, s⟩)
  clear hB h1 h2 h3 hW
  clear W
  rcases hw : winB ⟨a, b, c, d⟩ ⟨p, q, r, s⟩ with _ | _
  · rw [tileR_no hw]
    have HW := hid (HE.out.trans hw)
    clear hw
    go_enter Tryd.func51, Tryd.ntmps51
    go_wp2_with (go_at_call 68; with_reducible refine Calls.mono (Rg.within_any a b c d p q r s _) ?_; rintro e w1 ⟨rfl, hb⟩; rw [HW.out]; have H1 := hid (And.intro (via (w := w) H0.out.1 hb) (And.intro (H0.out.2.1.below hb) (And.intro (H0.out.2.2.1.below hb) (H0.out.2.2.2.below hb)))); obtain ⟨c0, c1, c2, c3, cf⟩ := H1.out.2.1; obtain ⟨d0, d1, d2, d3, df⟩ := H1.out.2.2.1; obtain ⟨z0, z1, z2, z3, zf⟩ := H1.out.2.2.2; clear hb)
    obtain ⟨s0, s1, s2, s3⟩ := Rg.Rc.set4 z0 z1 z2 z3 (.int .i64 p) (.int .i64 q) (.int .i64 r) (.int .i64 s)
    refine bodyPost_ret (v := .agg #[.int .i64 p, .int .i64 q, .int .i64 r, .int .i64 s]) (by simp [results, Tryd.results51, go_sem, s0, s1, s2, s3]) rfl ⟨rfl, ?_⟩
    exact low4 H1.out.1 (by omega) _ _ _ _
  · rw [tileR_yes hw]
    have HW := hid (HE.out.trans hw)
    clear hw
    go_enter Tryd.func51, Tryd.ntmps51
    go_wp2_with (go_at_call 68; with_reducible refine Calls.mono (Rg.within_any a b c d p q r s _) ?_; rintro e w1 ⟨rfl, hb⟩; rw [HW.out]; have H1 := hid (And.intro (via (w := w) H0.out.1 hb) (And.intro (H0.out.2.1.below hb) (And.intro (H0.out.2.2.1.below hb) (H0.out.2.2.2.below hb)))); obtain ⟨c0, c1, c2, c3, cf⟩ := H1.out.2.1; obtain ⟨d0, d1, d2, d3, df⟩ := H1.out.2.2.1; obtain ⟨z0, z1, z2, z3, zf⟩ := H1.out.2.2.2; clear hb)
    obtain ⟨s0, s1, s2, s3⟩ := Rg.Rc.set4 z0 z1 z2 z3 (.int .i64 a) (.int .i64 b) (.int .i64 c) (.int .i64 d)
    refine bodyPost_ret (v := .agg #[.int .i64 a, .int .i64 b, .int .i64 c, .int .i64 d]) (by simp [results, Tryd.results51, go_sem, s0, s1, s2, s3]) rfl ⟨rfl, ?_⟩
    exact low4 H1.out.1 (by omega) _ _ _ _

theorem al {W : World} (o : Obj) : Below W.heap.size W (W.alloc o) := (Below.refl _ _).alloc (Nat.le_refl _) _
/-- the node, the rectangle and the answer's cells, each in a block of its own -/
structure Es (w wr : World) (op : Int) (ai : Option Addr) (ni ci : Nat) (ap : Option Addr) (np cp : Nat) (a b c d : Int) : Prop where
  n : Nb wr w.heap.size op ai ni ci ap np cp
  s : Rg.Rc.Has4 wr (w.heap.size + 1) (.int .i64 a) (.int .i64 b) (.int .i64 c) (.int .i64 d)
  z : Rg.Rc.Has4 wr (w.heap.size + 1 + 1) (.int .i64 0) (.int .i64 0) (.int .i64 0) (.int .i64 0)
  low : Below w.heap.size w wr
section
variable {w wr w' : World} {op : Int} {ai : Option Addr} {ni ci : Nat} {ap : Option Addr} {np cp : Nat} {a b c d : Int}
theorem Es.to (h : Es w wr op ai ni ci ap np cp a b c d) (hb : Below wr.heap.size wr w') : Es w w' op ai ni ci ap np cp a b c d := ⟨h.n.below hb, h.s.below hb, h.z.below hb, via (w := w) h.low hb⟩
theorem es_new (w : World) (op : Int) (ai : Option Addr) (ni ci : Nat) (ap : Option Addr) (np cp : Nat) (a b c d : Int) :
    Es w (((w.alloc (.cells #[.int .i64 op, .slice ai ni ci, .slice ap np cp] 24)).alloc (.cells #[.int .i64 a, .int .i64 b, .int .i64 c, .int .i64 d] 26)).alloc (.cells #[.int .i64 0, .int .i64 0, .int .i64 0, .int .i64 0] 26)) op ai ni ci ap np cp a b c d := by
  have n0 := nb_new w op ai ni ci ap np cp 24
  have b0 := al (W := w) (.cells #[.int .i64 op, .slice ai ni ci, .slice ap np cp] 24)
  have z0 : (w.alloc (.cells #[.int .i64 op, .slice ai ni ci, .slice ap np cp] 24)).heap.size = w.heap.size + 1 := by simp
  generalize (w.alloc (.cells #[.int .i64 op, .slice ai ni ci, .slice ap np cp] 24)) = W0 at *
  have b1 := al (W := W0) (.cells #[.int .i64 a, .int .i64 b, .int .i64 c, .int .i64 d] 26)
  have h1 := Rg.Rc.Has4.new (W := W0) (k := w.heap.size + 1) z0.symm (.int .i64 a) (.int .i64 b) (.int .i64 c) (.int .i64 d) 26
  have z1 : (W0.alloc (.cells #[.int .i64 a, .int .i64 b, .int .i64 c, .int .i64 d] 26)).heap.size = w.heap.size + 1 + 1 := by simp [z0]
  generalize (W0.alloc (.cells #[.int .i64 a, .int .i64 b, .int .i64 c, .int .i64 d] 26)) = W1 at *
  have b2 := al (W := W1) (.cells #[.int .i64 0, .int .i64 0, .int .i64 0, .int .i64 0] 26)
  have h2 := Rg.Rc.Has4.new (W := W1) (k := w.heap.size + 1 + 1) z1.symm (.int .i64 0) (.int .i64 0) (.int .i64 0) (.int .i64 0) 26
  exact ⟨(n0.below b1).below b2, h1.below b2, h2, via (via b0 b1) b2⟩
/-- .. with the parameters behind -/
theorem es_sj (h : Es w wr op ai ni ci ap np cp a b c d) (p q r s : Int) : Rg.Rc.Sj w (w.heap.size + 1) wr.heap.size (w.heap.size + 1 + 1) a b c d p q r s (wr.alloc (.cells #[.int .i64 p, .int .i64 q, .int .i64 r, .int .i64 s] 73)) := by
  have hb := al (W := wr) (.cells #[.int .i64 p, .int .i64 q, .int .i64 r, .int .i64 s] 73)
  have h4 := Rg.Rc.Has4.new (W := wr) (k := wr.heap.size) rfl (.int .i64 p) (.int .i64 q) (.int .i64 r) (.int .i64 s) 73
  have hs := h.s.below hb
  exact ⟨⟨hs.c0, hs.c1, hs.c2, hs.c3, h4.c0, h4.c1, h4.c2, h4.c3⟩, via (w := w) h.low hb, by omega, _, _, _, _, h.z.below hb⟩
theorem set4_al {w' : World} {k : Nat} {p0 p1 p2 p3 : Value} (h0 : w'.cell? ⟨k, 0, none⟩ = some p0) (h1 : w'.cell? ⟨k, 1, none⟩ = some p1) (h2 : w'.cell? ⟨k, 2, none⟩ = some p2) (h3 : w'.cell? ⟨k, 3, none⟩ = some p3) (v0 v1 v2 v3 : Value) (o : Obj) :
    (((((w'.setCell ⟨k, 0, none⟩ v0).setCell ⟨k, 1, none⟩ v1).setCell ⟨k, 2, none⟩ v2).setCell ⟨k, 3, none⟩ v3).alloc o).cell? ⟨k, 0, none⟩ = some v0 ∧
    (((((w'.setCell ⟨k, 0, none⟩ v0).setCell ⟨k, 1, none⟩ v1).setCell ⟨k, 2, none⟩ v2).setCell ⟨k, 3, none⟩ v3).alloc o).cell? ⟨k, 1, none⟩ = some v1 ∧
    (((((w'.setCell ⟨k, 0, none⟩ v0).setCell ⟨k, 1, none⟩ v1).setCell ⟨k, 2, none⟩ v2).setCell ⟨k, 3, none⟩ v3).alloc o).cell? ⟨k, 2, none⟩ = some v2 ∧
    (((((w'.setCell ⟨k, 0, none⟩ v0).setCell ⟨k, 1, none⟩ v1).setCell ⟨k, 2, none⟩ v2).setCell ⟨k, 3, none⟩ v3).alloc o).cell? ⟨k, 3, none⟩ = some v3 := by
  obtain ⟨s0, s1, s2, s3⟩ := Rg.Rc.set4 h0 h1 h2 h3 v0 v1 v2 v3
  exact ⟨cell_below (al _) s0, cell_below (al _) s1, cell_below (al _) s2, cell_below (al _) s3⟩
theorem sj_out {w w1 : World} {p q k : Nat} {v0 v1 v2 v3 u0 u1 u2 u3 : Int} (h : Rg.Rc.Sj w p q k v0 v1 v2 v3 u0 u1 u2 u3 w1) : Below w.heap.size w w1 ∧ ∃ x0 x1 x2 x3, Rg.Rc.Has4 w1 k x0 x1 x2 x3 := by
  obtain ⟨-, hB, -, hR⟩ := h
  exact ⟨hB, hR⟩
end

set_option maxRecDepth 100000 in
set_option maxHeartbeats 4000000 in
theorem each_any (op : Int) (hop : 1 ≤ op ∧ op ≤ 12) (ai : Option Addr) (ni ci : Nat) (ap : Option Addr) (np cp bp ob : Nat) (p : List Int) (a b c d : Int) (w : World) (hp : Vi w ap np cp bp ob p) (hpr : Pr op (nth p)) (hok : Ok ⟨a, b, c, d⟩) :
    Calls Tryd.prog 26 #[.agg #[.int .i64 op, .slice ai ni ci, .slice ap np cp], .agg #[.int .i64 a, .int .i64 b, .int .i64 c, .int .i64 d]] w fun e w' => e = .returned (.agg #[.int .i64 (needE op (nth p) ⟨a, b, c, d⟩).x0, .int .i64 (needE op (nth p) ⟨a, b, c, d⟩).y0, .int .i64 (needE op (nth p) ⟨a, b, c, d⟩).x1, .int .i64 (needE op (nth p) ⟨a, b, c, d⟩).y1]) ∧ Below w.heap.size w w' := by
  have H0 := hid (es_new w op ai ni ci ap np cp a b c d)
  have HI := hid hp
  have HP := hid hpr
  have HO := hid hok
  obtain ⟨Z, hZ⟩ : ∃ Z, Z = needE op (nth p) ⟨a, b, c, d⟩ := ⟨_, rfl⟩
  rw [← hZ]
  clear hp hpr hok
  rcases he : empB ⟨a, b, c, d⟩ with _ | _
  case true =>
    have HE := hid he
    have HZ : Hid (Z = nil) := hid (by rw [hZ]; unfold needE; rw [need_nil _ _ he]; exact ite_self _)
    clear he hZ
    go_enter Tryd.func26, Tryd.ntmps26
    go_wp2_with (go_at_call 47; with_reducible refine Calls.mono (Rg.Rc.empty_any a b c d _) ?_; rintro e w1 ⟨rfl, hb⟩; rw [HE.out]; have H1 := hid (H0.out.to hb); obtain ⟨z0, z1, z2, z3, zf⟩ := H1.out.z; clear hb)
    obtain ⟨s0, s1, s2, s3⟩ := Rg.Rc.set4 z0 z1 z2 z3 (.int .i64 0) (.int .i64 0) (.int .i64 0) (.int .i64 0)
    refine bodyPost_ret (v := .agg #[.int .i64 0, .int .i64 0, .int .i64 0, .int .i64 0]) (by simp [results, Tryd.results26, go_sem, s0, s1, s2, s3]) rfl ⟨by rw [HZ.out]; rfl, ?_⟩
    exact low4 H1.out.low (by omega) _ _ _ _
  have HE := hid he
  have hA : ∀ op', op' ≠ 6 → needE op' (nth p) ⟨a, b, c, d⟩ = needB op' (nth p) ⟨a, b, c, d⟩ := fun op' h => by rw [needE_no h, need_some _ _ he]
  clear he
  have hcases : op = 1 ∨ op = 2 ∨ op = 3 ∨ op = 4 ∨ op = 5 ∨ op = 6 ∨ op = 7 ∨ op = 8 ∨ op = 9 ∨ op = 10 ∨ op = 11 ∨ op = 12 := by omega
  rcases hcases with rfl | rfl | rfl | rfl | rfl | rfl | rfl | rfl | rfl | rfl | rfl | rfl
  · rw [hA 1 (by decide)] at hZ
    clear hA
    have HZ : Hid (Z = (moveR ⟨a, b, c, d⟩ (-(nth p 0)) (-(nth p 1)))) := hid hZ
    obtain ⟨⟨q1, q2⟩, q3, q4⟩ := HP.out.m (Or.inl rfl)
    clear hZ
    go_enter Tryd.func26, Tryd.ntmps26
    go_wp2_with (first
      | (go_at_call 47; with_reducible refine Calls.mono (Rg.Rc.empty_any a b c d _) ?_; rintro e w1 ⟨rfl, hb⟩; rw [HE.out]; have H1 := hid (H0.out.to hb); obtain ⟨n0, n1, n2⟩ := id H1.out.n; obtain ⟨a0, a1, a2, a3, af⟩ := id H1.out.s; clear hb)
      | (go_at_call 48; with_reducible refine Calls.mono (param_any _ _ _ _ _ _ _ bp ob p _ (HI.out.below H1.out.low)) ?_; rintro e w2 ⟨rfl, hb⟩; have H2 := hid (H1.out.to hb); clear hb n0 n1 n2 a0 a1 a2 a3 af; obtain ⟨n0, n1, n2⟩ := id H2.out.n; obtain ⟨a0, a1, a2, a3, af⟩ := id H2.out.s; obtain ⟨z0, z1, z2, z3, zf⟩ := id H2.out.z; have jj : w.heap.size < w2.heap.size := World.block_lt_of_cell? _ _ n0; have j1 : w.heap.size + 1 < w2.heap.size := World.block_lt_of_cell? _ _ a0; have j2 : w.heap.size + 1 + 1 < w2.heap.size := World.block_lt_of_cell? _ _ z0)
      | (go_at_call 49; with_reducible refine Calls.mono (Rg.Rc.move_any a b c d (-(nth p 0)) (-(nth p 1)) _ HO.out (by omega) (by omega)) ?_; rintro e w3 ⟨rfl, hb⟩; have H3 := hid ((H2.out.to (al _)).to hb); obtain ⟨b0, b1, b2, b3, bf⟩ := H3.out.z; clear hb))
    obtain ⟨s0, s1, s2, s3⟩ := Rg.Rc.set4 b0 b1 b2 b3 (.int .i64 (moveR ⟨a, b, c, d⟩ (-(nth p 0)) (-(nth p 1))).x0) (.int .i64 (moveR ⟨a, b, c, d⟩ (-(nth p 0)) (-(nth p 1))).y0) (.int .i64 (moveR ⟨a, b, c, d⟩ (-(nth p 0)) (-(nth p 1))).x1) (.int .i64 (moveR ⟨a, b, c, d⟩ (-(nth p 0)) (-(nth p 1))).y1)
    refine bodyPost_ret (v := .agg #[.int .i64 (moveR ⟨a, b, c, d⟩ (-(nth p 0)) (-(nth p 1))).x0, .int .i64 (moveR ⟨a, b, c, d⟩ (-(nth p 0)) (-(nth p 1))).y0, .int .i64 (moveR ⟨a, b, c, d⟩ (-(nth p 0)) (-(nth p 1))).x1, .int .i64 (moveR ⟨a, b, c, d⟩ (-(nth p 0)) (-(nth p 1))).y1]) (by simp [results, Tryd.results26, go_sem, s0, s1, s2, s3]) rfl ⟨by rw [HZ.out], ?_⟩
    exact low4 H3.out.low (by omega) _ _ _ _
  · rw [hA 2 (by decide)] at hZ
    clear hA
    have HZ : Hid (Z = (grow ⟨a, b, c, d⟩ (nth p 0) (nth p 1) (nth p 0) (nth p 1))) := hid hZ
    obtain ⟨⟨q1, q2⟩, q3, q4⟩ := HP.out.g (by decide)
    clear hZ
    go_enter Tryd.func26, Tryd.ntmps26
    go_wp2_with (first
      | (go_at_call 47; with_reducible refine Calls.mono (Rg.Rc.empty_any a b c d _) ?_; rintro e w1 ⟨rfl, hb⟩; rw [HE.out]; have H1 := hid (H0.out.to hb); obtain ⟨n0, n1, n2⟩ := id H1.out.n; obtain ⟨a0, a1, a2, a3, af⟩ := id H1.out.s; clear hb)
      | (go_at_call 48; with_reducible refine Calls.mono (param_any _ _ _ _ _ _ _ bp ob p _ (HI.out.below H1.out.low)) ?_; rintro e w2 ⟨rfl, hb⟩; have H2 := hid (H1.out.to hb); clear hb n0 n1 n2 a0 a1 a2 a3 af; obtain ⟨n0, n1, n2⟩ := id H2.out.n; obtain ⟨a0, a1, a2, a3, af⟩ := id H2.out.s; obtain ⟨z0, z1, z2, z3, zf⟩ := id H2.out.z; have jj : w.heap.size < w2.heap.size := World.block_lt_of_cell? _ _ n0; have j1 : w.heap.size + 1 < w2.heap.size := World.block_lt_of_cell? _ _ a0; have j2 : w.heap.size + 1 + 1 < w2.heap.size := World.block_lt_of_cell? _ _ z0)
      | (go_at_call 50; with_reducible refine Calls.mono (Rg.Rc.grow_any a b c d (nth p 0) (nth p 1) (nth p 0) (nth p 1) _ HO.out (by omega) (by omega) (by omega) (by omega)) ?_; rintro e w3 ⟨rfl, hb⟩; have H3 := hid ((H2.out.to (al _)).to hb); obtain ⟨b0, b1, b2, b3, bf⟩ := H3.out.z; clear hb))
    obtain ⟨s0, s1, s2, s3⟩ := Rg.Rc.set4 b0 b1 b2 b3 (.int .i64 (grow ⟨a, b, c, d⟩ (nth p 0) (nth p 1) (nth p 0) (nth p 1)).x0) (.int .i64 (grow ⟨a, b, c, d⟩ (nth p 0) (nth p 1) (nth p 0) (nth p 1)).y0) (.int .i64 (grow ⟨a, b, c, d⟩ (nth p 0) (nth p 1) (nth p 0) (nth p 1)).x1) (.int .i64 (grow ⟨a, b, c, d⟩ (nth p 0) (nth p 1) (nth p 0) (nth p 1)).y1)
    refine bodyPost_ret (v := .agg #[.int .i64 (grow ⟨a, b, c, d⟩ (nth p 0) (nth p 1) (nth p 0) (nth p 1)).x0, .int .i64 (grow ⟨a, b, c, d⟩ (nth p 0) (nth p 1) (nth p 0) (nth p 1)).y0, .int .i64 (grow ⟨a, b, c, d⟩ (nth p 0) (nth p 1) (nth p 0) (nth p 1)).x1, .int .i64 (grow ⟨a, b, c, d⟩ (nth p 0) (nth p 1) (nth p 0) (nth p 1)).y1]) (by simp [results, Tryd.results26, go_sem, s0, s1, s2, s3]) rfl ⟨by rw [HZ.out], ?_⟩
    exact low4 H3.out.low (by omega) _ _ _ _
  · rw [hA 3 (by decide)] at hZ
    clear hA
    have HZ : Hid (Z = (grow ⟨a, b, c, d⟩ (nth p 0) (nth p 1) (nth p 0) (nth p 1))) := hid hZ
    obtain ⟨⟨q1, q2⟩, q3, q4⟩ := HP.out.g (by decide)
    clear hZ
    go_enter Tryd.func26, Tryd.ntmps26
    go_wp2_with (first
      | (go_at_call 47; with_reducible refine Calls.mono (Rg.Rc.empty_any a b c d _) ?_; rintro e w1 ⟨rfl, hb⟩; rw [HE.out]; have H1 := hid (H0.out.to hb); obtain ⟨n0, n1, n2⟩ := id H1.out.n; obtain ⟨a0, a1, a2, a3, af⟩ := id H1.out.s; clear hb)
      | (go_at_call 48; with_reducible refine Calls.mono (param_any _ _ _ _ _ _ _ bp ob p _ (HI.out.below H1.out.low)) ?_; rintro e w2 ⟨rfl, hb⟩; have H2 := hid (H1.out.to hb); clear hb n0 n1 n2 a0 a1 a2 a3 af; obtain ⟨n0, n1, n2⟩ := id H2.out.n; obtain ⟨a0, a1, a2, a3, af⟩ := id H2.out.s; obtain ⟨z0, z1, z2, z3, zf⟩ := id H2.out.z; have jj : w.heap.size < w2.heap.size := World.block_lt_of_cell? _ _ n0; have j1 : w.heap.size + 1 < w2.heap.size := World.block_lt_of_cell? _ _ a0; have j2 : w.heap.size + 1 + 1 < w2.heap.size := World.block_lt_of_cell? _ _ z0)
      | (go_at_call 50; with_reducible refine Calls.mono (Rg.Rc.grow_any a b c d (nth p 0) (nth p 1) (nth p 0) (nth p 1) _ HO.out (by omega) (by omega) (by omega) (by omega)) ?_; rintro e w3 ⟨rfl, hb⟩; have H3 := hid ((H2.out.to (al _)).to hb); obtain ⟨b0, b1, b2, b3, bf⟩ := H3.out.z; clear hb))
    obtain ⟨s0, s1, s2, s3⟩ := Rg.Rc.set4 b0 b1 b2 b3 (.int .i64 (grow ⟨a, b, c, d⟩ (nth p 0) (nth p 1) (nth p 0) (nth p 1)).x0) (.int .i64 (grow ⟨a, b, c, d⟩ (nth p 0) (nth p 1) (nth p 0) (nth p 1)).y0) (.int .i64 (grow ⟨a, b, c, d⟩ (nth p 0) (nth p 1) (nth p 0) (nth p 1)).x1) (.int .i64 (grow ⟨a, b, c, d⟩ (nth p 0) (nth p 1) (nth p 0) (nth p 1)).y1)
    refine bodyPost_ret (v := .agg #[.int .i64 (grow ⟨a, b, c, d⟩ (nth p 0) (nth p 1) (nth p 0) (nth p 1)).x0, .int .i64 (grow ⟨a, b, c, d⟩ (nth p 0) (nth p 1) (nth p 0) (nth p 1)).y0, .int .i64 (grow ⟨a, b, c, d⟩ (nth p 0) (nth p 1) (nth p 0) (nth p 1)).x1, .int .i64 (grow ⟨a, b, c, d⟩ (nth p 0) (nth p 1) (nth p 0) (nth p 1)).y1]) (by simp [results, Tryd.results26, go_sem, s0, s1, s2, s3]) rfl ⟨by rw [HZ.out], ?_⟩
    exact low4 H3.out.low (by omega) _ _ _ _
  · rw [hA 4 (by decide)] at hZ
    clear hA
    have HZ : Hid (Z = (grow ⟨a, b, c, d⟩ (nth p 0) (nth p 1) (nth p 0) (nth p 1))) := hid hZ
    obtain ⟨⟨q1, q2⟩, q3, q4⟩ := HP.out.g (by decide)
    clear hZ
    go_enter Tryd.func26, Tryd.ntmps26
    go_wp2_with (first
      | (go_at_call 47; with_reducible refine Calls.mono (Rg.Rc.empty_any a b c d _) ?_; rintro e w1 ⟨rfl, hb⟩; rw [HE.out]; have H1 := hid (H0.out.to hb); obtain ⟨n0, n1, n2⟩ := id H1.out.n; obtain ⟨a0, a1, a2, a3, af⟩ := id H1.out.s; clear hb)
      | (go_at_call 48; with_reducible refine Calls.mono (param_any _ _ _ _ _ _ _ bp ob p _ (HI.out.below H1.out.low)) ?_; rintro e w2 ⟨rfl, hb⟩; have H2 := hid (H1.out.to hb); clear hb n0 n1 n2 a0 a1 a2 a3 af; obtain ⟨n0, n1, n2⟩ := id H2.out.n; obtain ⟨a0, a1, a2, a3, af⟩ := id H2.out.s; obtain ⟨z0, z1, z2, z3, zf⟩ := id H2.out.z; have jj : w.heap.size < w2.heap.size := World.block_lt_of_cell? _ _ n0; have j1 : w.heap.size + 1 < w2.heap.size := World.block_lt_of_cell? _ _ a0; have j2 : w.heap.size + 1 + 1 < w2.heap.size := World.block_lt_of_cell? _ _ z0)
      | (go_at_call 50; with_reducible refine Calls.mono (Rg.Rc.grow_any a b c d (nth p 0) (nth p 1) (nth p 0) (nth p 1) _ HO.out (by omega) (by omega) (by omega) (by omega)) ?_; rintro e w3 ⟨rfl, hb⟩; have H3 := hid ((H2.out.to (al _)).to hb); obtain ⟨b0, b1, b2, b3, bf⟩ := H3.out.z; clear hb))
    obtain ⟨s0, s1, s2, s3⟩ := Rg.Rc.set4 b0 b1 b2 b3 (.int .i64 (grow ⟨a, b, c, d⟩ (nth p 0) (nth p 1) (nth p 0) (nth p 1)).x0) (.int .i64 (grow ⟨a, b, c, d⟩ (nth p 0) (nth p 1) (nth p 0) (nth p 1)).y0) (.int .i64 (grow ⟨a, b, c, d⟩ (nth p 0) (nth p 1) (nth p 0) (nth p 1)).x1) (.int .i64 (grow ⟨a, b, c, d⟩ (nth p 0) (nth p 1) (nth p 0) (nth p 1)).y1)
    refine bodyPost_ret (v := .agg #[.int .i64 (grow ⟨a, b, c, d⟩ (nth p 0) (nth p 1) (nth p 0) (nth p 1)).x0, .int .i64 (grow ⟨a, b, c, d⟩ (nth p 0) (nth p 1) (nth p 0) (nth p 1)).y0, .int .i64 (grow ⟨a, b, c, d⟩ (nth p 0) (nth p 1) (nth p 0) (nth p 1)).x1, .int .i64 (grow ⟨a, b, c, d⟩ (nth p 0) (nth p 1) (nth p 0) (nth p 1)).y1]) (by simp [results, Tryd.results26, go_sem, s0, s1, s2, s3]) rfl ⟨by rw [HZ.out], ?_⟩
    exact low4 H3.out.low (by omega) _ _ _ _
  · rw [hA 5 (by decide)] at hZ
    clear hA
    have HZ : Hid (Z = (⟨a, b, c, d⟩ : R)) := hid hZ
    clear hZ
    go_enter Tryd.func26, Tryd.ntmps26
    go_wp2_with (first
      | (go_at_call 47; with_reducible refine Calls.mono (Rg.Rc.empty_any a b c d _) ?_; rintro e w1 ⟨rfl, hb⟩; rw [HE.out]; have H1 := hid (H0.out.to hb); obtain ⟨n0, n1, n2⟩ := id H1.out.n; obtain ⟨a0, a1, a2, a3, af⟩ := id H1.out.s; clear hb)
      | (go_at_call 48; with_reducible refine Calls.mono (param_any _ _ _ _ _ _ _ bp ob p _ (HI.out.below H1.out.low)) ?_; rintro e w2 ⟨rfl, hb⟩; have H2 := hid (H1.out.to hb); clear hb n0 n1 n2 a0 a1 a2 a3 af; obtain ⟨n0, n1, n2⟩ := id H2.out.n; obtain ⟨a0, a1, a2, a3, af⟩ := id H2.out.s; obtain ⟨z0, z1, z2, z3, zf⟩ := id H2.out.z; have jj : w.heap.size < w2.heap.size := World.block_lt_of_cell? _ _ n0; have j1 : w.heap.size + 1 < w2.heap.size := World.block_lt_of_cell? _ _ a0; have j2 : w.heap.size + 1 + 1 < w2.heap.size := World.block_lt_of_cell? _ _ z0))
    obtain ⟨s0, s1, s2, s3⟩ := set4_al z0 z1 z2 z3 (.int .i64 a) (.int .i64 b) (.int .i64 c) (.int .i64 d) (.cells #[.int .i64 (nth p 0), .int .i64 (nth p 1), .int .i64 (nth p 2), .int .i64 (nth p 3)] 73)
    refine bodyPost_ret (v := .agg #[.int .i64 a, .int .i64 b, .int .i64 c, .int .i64 d]) (by simp [results, Tryd.results26, go_sem, s0, s1, s2, s3]) rfl ⟨by rw [HZ.out], ?_⟩
    exact via (low4 H2.out.low (by omega) _ _ _ _) (al _)
  · clear hA
    have HZ : Hid (Z = nil) := hid hZ
    clear hZ
    go_enter Tryd.func26, Tryd.ntmps26
    go_wp2_with (first
      | (go_at_call 47; with_reducible refine Calls.mono (Rg.Rc.empty_any a b c d _) ?_; rintro e w1 ⟨rfl, hb⟩; rw [HE.out]; have H1 := hid (H0.out.to hb); obtain ⟨n0, n1, n2⟩ := id H1.out.n; obtain ⟨a0, a1, a2, a3, af⟩ := id H1.out.s; clear hb)
      | (go_at_call 48; with_reducible refine Calls.mono (param_any _ _ _ _ _ _ _ bp ob p _ (HI.out.below H1.out.low)) ?_; rintro e w2 ⟨rfl, hb⟩; have H2 := hid (H1.out.to hb); clear hb n0 n1 n2 a0 a1 a2 a3 af; obtain ⟨n0, n1, n2⟩ := id H2.out.n; obtain ⟨a0, a1, a2, a3, af⟩ := id H2.out.s; obtain ⟨z0, z1, z2, z3, zf⟩ := id H2.out.z; have jj : w.heap.size < w2.heap.size := World.block_lt_of_cell? _ _ n0; have j1 : w.heap.size + 1 < w2.heap.size := World.block_lt_of_cell? _ _ a0; have j2 : w.heap.size + 1 + 1 < w2.heap.size := World.block_lt_of_cell? _ _ z0))
    obtain ⟨s0, s1, s2, s3⟩ := set4_al z0 z1 z2 z3 (.int .i64 0) (.int .i64 0) (.int .i64 0) (.int .i64 0) (.cells #[.int .i64 (nth p 0), .int .i64 (nth p 1), .int .i64 (nth p 2), .int .i64 (nth p 3)] 73)
    refine bodyPost_ret (v := .agg #[.int .i64 0, .int .i64 0, .int .i64 0, .int .i64 0]) (by simp [results, Tryd.results26, go_sem, s0, s1, s2, s3]) rfl ⟨by rw [HZ.out]; rfl, ?_⟩
    exact via (low4 H2.out.low (by omega) _ _ _ _) (al _)
  · rw [hA 7 (by decide)] at hZ
    clear hA
    have HZ : Hid (Z = (⟨a, b, c, d⟩ : R)) := hid hZ
    clear hZ
    go_enter Tryd.func26, Tryd.ntmps26
    go_wp2_with (first
      | (go_at_call 47; with_reducible refine Calls.mono (Rg.Rc.empty_any a b c d _) ?_; rintro e w1 ⟨rfl, hb⟩; rw [HE.out]; have H1 := hid (H0.out.to hb); obtain ⟨n0, n1, n2⟩ := id H1.out.n; obtain ⟨a0, a1, a2, a3, af⟩ := id H1.out.s; clear hb)
      | (go_at_call 48; with_reducible refine Calls.mono (param_any _ _ _ _ _ _ _ bp ob p _ (HI.out.below H1.out.low)) ?_; rintro e w2 ⟨rfl, hb⟩; have H2 := hid (H1.out.to hb); clear hb n0 n1 n2 a0 a1 a2 a3 af; obtain ⟨n0, n1, n2⟩ := id H2.out.n; obtain ⟨a0, a1, a2, a3, af⟩ := id H2.out.s; obtain ⟨z0, z1, z2, z3, zf⟩ := id H2.out.z; have jj : w.heap.size < w2.heap.size := World.block_lt_of_cell? _ _ n0; have j1 : w.heap.size + 1 < w2.heap.size := World.block_lt_of_cell? _ _ a0; have j2 : w.heap.size + 1 + 1 < w2.heap.size := World.block_lt_of_cell? _ _ z0))
    obtain ⟨s0, s1, s2, s3⟩ := set4_al z0 z1 z2 z3 (.int .i64 a) (.int .i64 b) (.int .i64 c) (.int .i64 d) (.cells #[.int .i64 (nth p 0), .int .i64 (nth p 1), .int .i64 (nth p 2), .int .i64 (nth p 3)] 73)
    refine bodyPost_ret (v := .agg #[.int .i64 a, .int .i64 b, .int .i64 c, .int .i64 d]) (by simp [results, Tryd.results26, go_sem, s0, s1, s2, s3]) rfl ⟨by rw [HZ.out], ?_⟩
    exact via (low4 H2.out.low (by omega) _ _ _ _) (al _)
  · rw [hA 8 (by decide)] at hZ
    clear hA
    have HZ : Hid (Z = (⟨a, b, c, d⟩ : R)) := hid hZ
    clear hZ
    go_enter Tryd.func26, Tryd.ntmps26
    go_wp2_with (first
      | (go_at_call 47; with_reducible refine Calls.mono (Rg.Rc.empty_any a b c d _) ?_; rintro e w1 ⟨rfl, hb⟩; rw [HE.out]; have H1 := hid (H0.out.to hb); obtain ⟨n0, n1, n2⟩ := id H1.out.n; obtain ⟨a0, a1, a2, a3, af⟩ := id H1.out.s; clear hb)
      | (go_at_call 48; with_reducible refine Calls.mono (param_any _ _ _ _ _ _ _ bp ob p _ (HI.out.below H1.out.low)) ?_; rintro e w2 ⟨rfl, hb⟩; have H2 := hid (H1.out.to hb); clear hb n0 n1 n2 a0 a1 a2 a3 af; obtain ⟨n0, n1, n2⟩ := id H2.out.n; obtain ⟨a0, a1, a2, a3, af⟩ := id H2.out.s; obtain ⟨z0, z1, z2, z3, zf⟩ := id H2.out.z; have jj : w.heap.size < w2.heap.size := World.block_lt_of_cell? _ _ n0; have j1 : w.heap.size + 1 < w2.heap.size := World.block_lt_of_cell? _ _ a0; have j2 : w.heap.size + 1 + 1 < w2.heap.size := World.block_lt_of_cell? _ _ z0))
    obtain ⟨s0, s1, s2, s3⟩ := set4_al z0 z1 z2 z3 (.int .i64 a) (.int .i64 b) (.int .i64 c) (.int .i64 d) (.cells #[.int .i64 (nth p 0), .int .i64 (nth p 1), .int .i64 (nth p 2), .int .i64 (nth p 3)] 73)
    refine bodyPost_ret (v := .agg #[.int .i64 a, .int .i64 b, .int .i64 c, .int .i64 d]) (by simp [results, Tryd.results26, go_sem, s0, s1, s2, s3]) rfl ⟨by rw [HZ.out], ?_⟩
    exact via (low4 H2.out.low (by omega) _ _ _ _) (al _)
  · rw [hA 9 (by decide)] at hZ
    clear hA
    have HZ : Hid (Z = (⟨a, b, c, d⟩ : R)) := hid hZ
    clear hZ
    go_enter Tryd.func26, Tryd.ntmps26
    go_wp2_with (first
      | (go_at_call 47; with_reducible refine Calls.mono (Rg.Rc.empty_any a b c d _) ?_; rintro e w1 ⟨rfl, hb⟩; rw [HE.out]; have H1 := hid (H0.out.to hb); obtain ⟨n0, n1, n2⟩ := id H1.out.n; obtain ⟨a0, a1, a2, a3, af⟩ := id H1.out.s; clear hb)
      | (go_at_call 48; with_reducible refine Calls.mono (param_any _ _ _ _ _ _ _ bp ob p _ (HI.out.below H1.out.low)) ?_; rintro e w2 ⟨rfl, hb⟩; have H2 := hid (H1.out.to hb); clear hb n0 n1 n2 a0 a1 a2 a3 af; obtain ⟨n0, n1, n2⟩ := id H2.out.n; obtain ⟨a0, a1, a2, a3, af⟩ := id H2.out.s; obtain ⟨z0, z1, z2, z3, zf⟩ := id H2.out.z; have jj : w.heap.size < w2.heap.size := World.block_lt_of_cell? _ _ n0; have j1 : w.heap.size + 1 < w2.heap.size := World.block_lt_of_cell? _ _ a0; have j2 : w.heap.size + 1 + 1 < w2.heap.size := World.block_lt_of_cell? _ _ z0))
    obtain ⟨s0, s1, s2, s3⟩ := set4_al z0 z1 z2 z3 (.int .i64 a) (.int .i64 b) (.int .i64 c) (.int .i64 d) (.cells #[.int .i64 (nth p 0), .int .i64 (nth p 1), .int .i64 (nth p 2), .int .i64 (nth p 3)] 73)
    refine bodyPost_ret (v := .agg #[.int .i64 a, .int .i64 b, .int .i64 c, .int .i64 d]) (by simp [results, Tryd.results26, go_sem, s0, s1, s2, s3]) rfl ⟨by rw [HZ.out], ?_⟩
    exact via (low4 H2.out.low (by omega) _ _ _ _) (al _)
  · rw [hA 10 (by decide)] at hZ
    clear hA
    have HZ : Hid (Z = (tileR ⟨a, b, c, d⟩ ⟨nth p 0, nth p 1, nth p 2, nth p 3⟩)) := hid hZ
    clear hZ
    go_enter Tryd.func26, Tryd.ntmps26
    go_wp2_with (first
      | (go_at_call 47; with_reducible refine Calls.mono (Rg.Rc.empty_any a b c d _) ?_; rintro e w1 ⟨rfl, hb⟩; rw [HE.out]; have H1 := hid (H0.out.to hb); obtain ⟨n0, n1, n2⟩ := id H1.out.n; obtain ⟨a0, a1, a2, a3, af⟩ := id H1.out.s; clear hb)
      | (go_at_call 48; with_reducible refine Calls.mono (param_any _ _ _ _ _ _ _ bp ob p _ (HI.out.below H1.out.low)) ?_; rintro e w2 ⟨rfl, hb⟩; have H2 := hid (H1.out.to hb); clear hb n0 n1 n2 a0 a1 a2 a3 af; obtain ⟨n0, n1, n2⟩ := id H2.out.n; obtain ⟨a0, a1, a2, a3, af⟩ := id H2.out.s; obtain ⟨z0, z1, z2, z3, zf⟩ := id H2.out.z; have jj : w.heap.size < w2.heap.size := World.block_lt_of_cell? _ _ n0; have j1 : w.heap.size + 1 < w2.heap.size := World.block_lt_of_cell? _ _ a0; have j2 : w.heap.size + 1 + 1 < w2.heap.size := World.block_lt_of_cell? _ _ z0))
    have hS := es_sj H2.out (nth p 0) (nth p 1) (nth p 2) (nth p 3)
    go_region_held3 (fun w' => (w'.cell? ⟨w.heap.size + 1, 0, none⟩ = some (.int .i64 a) ∧ w'.cell? ⟨w.heap.size + 1, 1, none⟩ = some (.int .i64 b) ∧ w'.cell? ⟨w.heap.size + 1, 2, none⟩ = some (.int .i64 c) ∧ w'.cell? ⟨w.heap.size + 1, 3, none⟩ = some (.int .i64 d) ∧ w'.cell? ⟨w2.heap.size, 0, none⟩ = some (.int .i64 (nth p 0)) ∧ w'.cell? ⟨w2.heap.size, 1, none⟩ = some (.int .i64 (nth p 1)) ∧ w'.cell? ⟨w2.heap.size, 2, none⟩ = some (.int .i64 (nth p 2)) ∧ w'.cell? ⟨w2.heap.size, 3, none⟩ = some (.int .i64 (nth p 3))) ∧ Rg.Rc.Rest w (w.heap.size + 1 + 1) w') (repeat (first | with_reducible assumption | with_reducible refine Rg.Rc.sj_drew ?_ | with_reducible refine Rg.Rc.sj_alloc ?_ | with_reducible refine Rg.Rc.sj_set (by omega) (by omega) ?_ | with_reducible refine Rg.Rc.sj_below ?_ ‹_›)) ((first
      | (go_at_call 52; with_reducible refine Calls.mono (edges_any _ _ _ _ _) ?_; rintro e w3 ⟨rfl, hb3⟩)
      | (go_at_call 51; with_reducible refine Calls.mono (tile_any _ _ _ _ a b c d _) ?_; rintro e w5 ⟨rfl, hb5⟩; have hq : Rg.Rc.Sj w (w.heap.size + 1) w2.heap.size (w.heap.size + 1 + 1) a b c d (nth p 0) (nth p 1) (nth p 2) (nth p 3) w5 := Rg.Rc.sj_below (by repeat (first | with_reducible assumption | with_reducible refine Rg.Rc.sj_drew ?_ | with_reducible refine Rg.Rc.sj_alloc ?_ | with_reducible refine Rg.Rc.sj_below ?_ ‹_›)) hb5; obtain ⟨hB3, u0, u1, u2, u3, t0, t1, t2, t3, tf⟩ := sj_out hq)))
    go_wp2
    obtain ⟨s0, s1, s2, s3⟩ := Rg.Rc.set4 t0 t1 t2 t3 (.int .i64 (tileR ⟨a, b, c, d⟩ ⟨nth p 0, nth p 1, nth p 2, nth p 3⟩).x0) (.int .i64 (tileR ⟨a, b, c, d⟩ ⟨nth p 0, nth p 1, nth p 2, nth p 3⟩).y0) (.int .i64 (tileR ⟨a, b, c, d⟩ ⟨nth p 0, nth p 1, nth p 2, nth p 3⟩).x1) (.int .i64 (tileR ⟨a, b, c, d⟩ ⟨nth p 0, nth p 1, nth p 2, nth p 3⟩).y1)
    refine bodyPost_ret (v := .agg #[.int .i64 (tileR ⟨a, b, c, d⟩ ⟨nth p 0, nth p 1, nth p 2, nth p 3⟩).x0, .int .i64 (tileR ⟨a, b, c, d⟩ ⟨nth p 0, nth p 1, nth p 2, nth p 3⟩).y0, .int .i64 (tileR ⟨a, b, c, d⟩ ⟨nth p 0, nth p 1, nth p 2, nth p 3⟩).x1, .int .i64 (tileR ⟨a, b, c, d⟩ ⟨nth p 0, nth p 1, nth p 2, nth p 3⟩).y1]) (by simp [results, Tryd.results26, go_sem, s0, s1, s2, s3]) rfl ⟨by rw [HZ.out], ?_⟩
    exact low4 hB3 (by omega) _ _ _ _
  · rw [hA 11 (by decide)] at hZ
    clear hA
    have HZ : Hid (Z = (join ⟨a, b, c, d⟩ (grow (moveR ⟨a, b, c, d⟩ (-(nth p 0)) (-(nth p 1))) (nth p 2) (nth p 3) (nth p 2) (nth p 3)))) := hid hZ
    obtain ⟨⟨q1, q2⟩, q3, q4⟩ := HP.out.m (Or.inr rfl)
    obtain ⟨⟨q5, q6⟩, q7, q8⟩ := HP.out.s rfl
    have wr0 : IntKind.i64.wrap (-nth p 0) = -nth p 0 := by rw [IntKind.wrap_i64]; omega
    have wr1 : IntKind.i64.wrap (-nth p 1) = -nth p 1 := by rw [IntKind.wrap_i64]; omega
    clear hZ
    go_enter Tryd.func26, Tryd.ntmps26
    go_wp2_with (first
      | (go_at_call 47; with_reducible refine Calls.mono (Rg.Rc.empty_any a b c d _) ?_; rintro e w1 ⟨rfl, hb⟩; rw [HE.out]; have H1 := hid (H0.out.to hb); obtain ⟨n0, n1, n2⟩ := id H1.out.n; obtain ⟨a0, a1, a2, a3, af⟩ := id H1.out.s; clear hb)
      | (go_at_call 48; with_reducible refine Calls.mono (param_any _ _ _ _ _ _ _ bp ob p _ (HI.out.below H1.out.low)) ?_; rintro e w2 ⟨rfl, hb⟩; have H2 := hid (H1.out.to hb); clear hb n0 n1 n2 a0 a1 a2 a3 af; obtain ⟨n0, n1, n2⟩ := id H2.out.n; obtain ⟨a0, a1, a2, a3, af⟩ := id H2.out.s; obtain ⟨z0, z1, z2, z3, zf⟩ := id H2.out.z; have jj : w.heap.size < w2.heap.size := World.block_lt_of_cell? _ _ n0; have j1 : w.heap.size + 1 < w2.heap.size := World.block_lt_of_cell? _ _ a0; have j2 : w.heap.size + 1 + 1 < w2.heap.size := World.block_lt_of_cell? _ _ z0))
    have hS := es_sj H2.out (nth p 0) (nth p 1) (nth p 2) (nth p 3)
    go_region_held3 (fun w' => (w'.cell? ⟨w.heap.size + 1, 0, none⟩ = some (.int .i64 a) ∧ w'.cell? ⟨w.heap.size + 1, 1, none⟩ = some (.int .i64 b) ∧ w'.cell? ⟨w.heap.size + 1, 2, none⟩ = some (.int .i64 c) ∧ w'.cell? ⟨w.heap.size + 1, 3, none⟩ = some (.int .i64 d) ∧ w'.cell? ⟨w2.heap.size, 0, none⟩ = some (.int .i64 (nth p 0)) ∧ w'.cell? ⟨w2.heap.size, 1, none⟩ = some (.int .i64 (nth p 1)) ∧ w'.cell? ⟨w2.heap.size, 2, none⟩ = some (.int .i64 (nth p 2)) ∧ w'.cell? ⟨w2.heap.size, 3, none⟩ = some (.int .i64 (nth p 3))) ∧ Rg.Rc.Rest w (w.heap.size + 1 + 1) w') (repeat (first | with_reducible assumption | with_reducible refine Rg.Rc.sj_drew ?_ | with_reducible refine Rg.Rc.sj_alloc ?_ | with_reducible refine Rg.Rc.sj_set (by omega) (by omega) ?_ | with_reducible refine Rg.Rc.sj_below ?_ ‹_›)) ((first
      | (go_at_call 49; with_reducible refine Calls.mono (Rg.Rc.move_any a b c d (-(nth p 0)) (-(nth p 1)) _ HO.out (by omega) (by omega)) ?_; rintro e w3 ⟨rfl, hb3⟩)
      | (go_at_call 50; with_reducible refine Calls.mono (Rg.Rc.grow_any (moveR ⟨a, b, c, d⟩ (-(nth p 0)) (-(nth p 1))).x0 (moveR ⟨a, b, c, d⟩ (-(nth p 0)) (-(nth p 1))).y0 (moveR ⟨a, b, c, d⟩ (-(nth p 0)) (-(nth p 1))).x1 (moveR ⟨a, b, c, d⟩ (-(nth p 0)) (-(nth p 1))).y1 (nth p 2) (nth p 3) (nth p 2) (nth p 3) _ (Rg.Num.ok_moveR _ _ _) (by omega) (by omega) (by omega) (by omega)) ?_; rintro e w4 ⟨rfl, hb4⟩)
      | (go_at_call 53; with_reducible refine Calls.mono (Rg.Rc.join_any a b c d (grow (moveR ⟨a, b, c, d⟩ (-(nth p 0)) (-(nth p 1))) (nth p 2) (nth p 3) (nth p 2) (nth p 3)).x0 (grow (moveR ⟨a, b, c, d⟩ (-(nth p 0)) (-(nth p 1))) (nth p 2) (nth p 3) (nth p 2) (nth p 3)).y0 (grow (moveR ⟨a, b, c, d⟩ (-(nth p 0)) (-(nth p 1))) (nth p 2) (nth p 3) (nth p 2) (nth p 3)).x1 (grow (moveR ⟨a, b, c, d⟩ (-(nth p 0)) (-(nth p 1))) (nth p 2) (nth p 3) (nth p 2) (nth p 3)).y1 _) ?_; rintro e w5 ⟨rfl, hb5⟩; have hq : Rg.Rc.Sj w (w.heap.size + 1) w2.heap.size (w.heap.size + 1 + 1) a b c d (nth p 0) (nth p 1) (nth p 2) (nth p 3) w5 := Rg.Rc.sj_below (by repeat (first | with_reducible assumption | with_reducible refine Rg.Rc.sj_drew ?_ | with_reducible refine Rg.Rc.sj_alloc ?_ | with_reducible refine Rg.Rc.sj_below ?_ ‹_›)) hb5; obtain ⟨hB3, u0, u1, u2, u3, t0, t1, t2, t3, tf⟩ := sj_out hq)))
    go_wp2
    obtain ⟨s0, s1, s2, s3⟩ := Rg.Rc.set4 t0 t1 t2 t3 (.int .i64 (join ⟨a, b, c, d⟩ (grow (moveR ⟨a, b, c, d⟩ (-(nth p 0)) (-(nth p 1))) (nth p 2) (nth p 3) (nth p 2) (nth p 3))).x0) (.int .i64 (join ⟨a, b, c, d⟩ (grow (moveR ⟨a, b, c, d⟩ (-(nth p 0)) (-(nth p 1))) (nth p 2) (nth p 3) (nth p 2) (nth p 3))).y0) (.int .i64 (join ⟨a, b, c, d⟩ (grow (moveR ⟨a, b, c, d⟩ (-(nth p 0)) (-(nth p 1))) (nth p 2) (nth p 3) (nth p 2) (nth p 3))).x1) (.int .i64 (join ⟨a, b, c, d⟩ (grow (moveR ⟨a, b, c, d⟩ (-(nth p 0)) (-(nth p 1))) (nth p 2) (nth p 3) (nth p 2) (nth p 3))).y1)
    refine bodyPost_ret (v := .agg #[.int .i64 (join ⟨a, b, c, d⟩ (grow (moveR ⟨a, b, c, d⟩ (-(nth p 0)) (-(nth p 1))) (nth p 2) (nth p 3) (nth p 2) (nth p 3))).x0, .int .i64 (join ⟨a, b, c, d⟩ (grow (moveR ⟨a, b, c, d⟩ (-(nth p 0)) (-(nth p 1))) (nth p 2) (nth p 3) (nth p 2) (nth p 3))).y0, .int .i64 (join ⟨a, b, c, d⟩ (grow (moveR ⟨a, b, c, d⟩ (-(nth p 0)) (-(nth p 1))) (nth p 2) (nth p 3) (nth p 2) (nth p 3))).x1, .int .i64 (join ⟨a, b, c, d⟩ (grow (moveR ⟨a, b, c, d⟩ (-(nth p 0)) (-(nth p 1))) (nth p 2) (nth p 3) (nth p 2) (nth p 3))).y1]) (by simp [results, Tryd.results26, go_sem, s0, s1, s2, s3]) rfl ⟨by rw [HZ.out], ?_⟩
    exact low4 hB3 (by omega) _ _ _ _
  · rw [hA 12 (by decide)] at hZ
    clear hA
    have HZ : Hid (Z = (meet ⟨a, b, c, d⟩ ⟨nth p 0, nth p 1, nth p 2, nth p 3⟩)) := hid hZ
    clear hZ
    go_enter Tryd.func26, Tryd.ntmps26
    go_wp2_with (first
      | (go_at_call 47; with_reducible refine Calls.mono (Rg.Rc.empty_any a b c d _) ?_; rintro e w1 ⟨rfl, hb⟩; rw [HE.out]; have H1 := hid (H0.out.to hb); obtain ⟨n0, n1, n2⟩ := id H1.out.n; obtain ⟨a0, a1, a2, a3, af⟩ := id H1.out.s; clear hb)
      | (go_at_call 48; with_reducible refine Calls.mono (param_any _ _ _ _ _ _ _ bp ob p _ (HI.out.below H1.out.low)) ?_; rintro e w2 ⟨rfl, hb⟩; have H2 := hid (H1.out.to hb); clear hb n0 n1 n2 a0 a1 a2 a3 af; obtain ⟨n0, n1, n2⟩ := id H2.out.n; obtain ⟨a0, a1, a2, a3, af⟩ := id H2.out.s; obtain ⟨z0, z1, z2, z3, zf⟩ := id H2.out.z; have jj : w.heap.size < w2.heap.size := World.block_lt_of_cell? _ _ n0; have j1 : w.heap.size + 1 < w2.heap.size := World.block_lt_of_cell? _ _ a0; have j2 : w.heap.size + 1 + 1 < w2.heap.size := World.block_lt_of_cell? _ _ z0))
    have hS := es_sj H2.out (nth p 0) (nth p 1) (nth p 2) (nth p 3)
    go_region_held3 (fun w' => (w'.cell? ⟨w.heap.size + 1, 0, none⟩ = some (.int .i64 a) ∧ w'.cell? ⟨w.heap.size + 1, 1, none⟩ = some (.int .i64 b) ∧ w'.cell? ⟨w.heap.size + 1, 2, none⟩ = some (.int .i64 c) ∧ w'.cell? ⟨w.heap.size + 1, 3, none⟩ = some (.int .i64 d) ∧ w'.cell? ⟨w2.heap.size, 0, none⟩ = some (.int .i64 (nth p 0)) ∧ w'.cell? ⟨w2.heap.size, 1, none⟩ = some (.int .i64 (nth p 1)) ∧ w'.cell? ⟨w2.heap.size, 2, none⟩ = some (.int .i64 (nth p 2)) ∧ w'.cell? ⟨w2.heap.size, 3, none⟩ = some (.int .i64 (nth p 3))) ∧ Rg.Rc.Rest w (w.heap.size + 1 + 1) w') (repeat (first | with_reducible assumption | with_reducible refine Rg.Rc.sj_drew ?_ | with_reducible refine Rg.Rc.sj_alloc ?_ | with_reducible refine Rg.Rc.sj_set (by omega) (by omega) ?_ | with_reducible refine Rg.Rc.sj_below ?_ ‹_›)) ((first
      | (go_at_call 52; with_reducible refine Calls.mono (edges_any _ _ _ _ _) ?_; rintro e w3 ⟨rfl, hb3⟩)
      | (go_at_call 54; with_reducible refine Calls.mono (Rg.Rc.meet_any a b c d _ _ _ _ _) ?_; rintro e w5 ⟨rfl, hb5⟩; have hq : Rg.Rc.Sj w (w.heap.size + 1) w2.heap.size (w.heap.size + 1 + 1) a b c d (nth p 0) (nth p 1) (nth p 2) (nth p 3) w5 := Rg.Rc.sj_below (by repeat (first | with_reducible assumption | with_reducible refine Rg.Rc.sj_drew ?_ | with_reducible refine Rg.Rc.sj_alloc ?_ | with_reducible refine Rg.Rc.sj_below ?_ ‹_›)) hb5; obtain ⟨hB3, u0, u1, u2, u3, t0, t1, t2, t3, tf⟩ := sj_out hq)))
    go_wp2
    obtain ⟨s0, s1, s2, s3⟩ := Rg.Rc.set4 t0 t1 t2 t3 (.int .i64 (meet ⟨a, b, c, d⟩ ⟨nth p 0, nth p 1, nth p 2, nth p 3⟩).x0) (.int .i64 (meet ⟨a, b, c, d⟩ ⟨nth p 0, nth p 1, nth p 2, nth p 3⟩).y0) (.int .i64 (meet ⟨a, b, c, d⟩ ⟨nth p 0, nth p 1, nth p 2, nth p 3⟩).x1) (.int .i64 (meet ⟨a, b, c, d⟩ ⟨nth p 0, nth p 1, nth p 2, nth p 3⟩).y1)
    refine bodyPost_ret (v := .agg #[.int .i64 (meet ⟨a, b, c, d⟩ ⟨nth p 0, nth p 1, nth p 2, nth p 3⟩).x0, .int .i64 (meet ⟨a, b, c, d⟩ ⟨nth p 0, nth p 1, nth p 2, nth p 3⟩).y0, .int .i64 (meet ⟨a, b, c, d⟩ ⟨nth p 0, nth p 1, nth p 2, nth p 3⟩).x1, .int .i64 (meet ⟨a, b, c, d⟩ ⟨nth p 0, nth p 1, nth p 2, nth p 3⟩).y1]) (by simp [results, Tryd.results26, go_sem, s0, s1, s2, s3]) rfl ⟨by rw [HZ.out], ?_⟩
    exact low4 hB3 (by omega) _ _ _ _
end Go.Proofs.YtamojciiacmjaaaDoor
