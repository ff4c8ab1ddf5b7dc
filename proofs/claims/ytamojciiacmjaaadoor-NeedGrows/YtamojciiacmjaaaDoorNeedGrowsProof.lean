/- For every right filter of few nodes, and every two rectangles: for the greater one no less is needed; for none nothing. -/
import Derived.Test.YtamojciiacmjaaaDoorRows
import Derived.Test.YtamojciiacmjaaaDoorCards
import Derived.Test.YtamojciiacmjaaaDoorTie
import Derived.WalkKit
import Derived.ProofKit
import Derived.OpenShut
import Derived.LaidMore
import Derived.SevenTiedAt
import Derived.Stop.Joined
import Derived.Test.YtamojciiacmjaaaDoorNdOpen
namespace Go.Proofs.YtamojciiacmjaaaDoor.needGrows
open Go Go.ChangeShapes Go.WideShapes Go.ChangeAt Go.RowKit Num
open Rg.Num (R empB orN nil moveR grow meet join mvd mx mn cutR Ok Pr boxQ hasB rightB)
set_option linter.unusedVariables false
set_option linter.unusedSimpArgs false
attribute [local go_sem ↓] Rg.eqR
attribute [local go_sem] Rg.eq4_same

/-- the filter's box and the two rectangles' -/
structure Lg2 (w wr : World) (ao : Option Addr) (n c : Nat) (out : Int) (p q r s p2 q2 r2 s2 : Int) : Prop where
  g : Lg w wr ao n c out p q r s
  t : Rg.Rc.Has4 wr (w.heap.size + 1 + 1) (.int .i64 p2) (.int .i64 q2) (.int .i64 r2) (.int .i64 s2)
section
variable {w wr w' : World} {ao : Option Addr} {n c : Nat} {out : Int} {p q r s p2 q2 r2 s2 : Int}
theorem Lg2.to (h : Lg2 w wr ao n c out p q r s p2 q2 r2 s2) (hb : Below wr.heap.size wr w') : Lg2 w w' ao n c out p q r s p2 q2 r2 s2 := ⟨h.g.to hb, h.t.below hb⟩
theorem lg2_new (w : World) (ao : Option Addr) (n c : Nat) (out p q r s p2 q2 r2 s2 : Int) : Lg2 w (((w.alloc (.cells #[.slice ao n c, .int .i64 out] 36)).alloc (.cells #[.int .i64 p, .int .i64 q, .int .i64 r, .int .i64 s] 26)).alloc (.cells #[.int .i64 p2, .int .i64 q2, .int .i64 r2, .int .i64 s2] 26)) ao n c out p q r s p2 q2 r2 s2 :=
  ⟨(lg_new w ao n c out p q r s).to (al _), Rg.Rc.Has4.new (by simp) _ _ _ _ _⟩
theorem Lg2.low (h : Lg2 w wr ao n c out p q r s p2 q2 r2 s2) : Below w.heap.size w wr := h.g.low
end
/-- ten cells stand -/
abbrev Sq (W : World) (g : Nat) (ao : Option Addr) (n c : Nat) (out p q r s p2 q2 r2 s2 : Int) (w' : World) : Prop := (w'.cell? ⟨g, 0, none⟩ = some (.slice ao n c) ∧ w'.cell? ⟨g, 1, none⟩ = some (.int .i64 out) ∧ w'.cell? ⟨g + 1, 0, none⟩ = some (.int .i64 p) ∧ w'.cell? ⟨g + 1, 1, none⟩ = some (.int .i64 q) ∧ w'.cell? ⟨g + 1, 2, none⟩ = some (.int .i64 r) ∧ w'.cell? ⟨g + 1, 3, none⟩ = some (.int .i64 s) ∧ w'.cell? ⟨g + 1 + 1, 0, none⟩ = some (.int .i64 p2) ∧ w'.cell? ⟨g + 1 + 1, 1, none⟩ = some (.int .i64 q2) ∧ w'.cell? ⟨g + 1 + 1, 2, none⟩ = some (.int .i64 r2) ∧ w'.cell? ⟨g + 1 + 1, 3, none⟩ = some (.int .i64 s2)) ∧ Below W.heap.size W w'
section
variable {W : World} {g : Nat} {ao : Option Addr} {n c : Nat} {out p q r s p2 q2 r2 s2 : Int} {w' : World}
theorem sq_below {w2 : World} (h : Sq W g ao n c out p q r s p2 q2 r2 s2 w') (hb : Below w'.heap.size w' w2) : Sq W g ao n c out p q r s p2 q2 r2 s2 w2 := by
  obtain ⟨⟨h0, h1, h2, h3, h4, h5, h6, h7, h8, h9⟩, hB⟩ := h
  exact ⟨⟨cell_below hb h0, cell_below hb h1, cell_below hb h2, cell_below hb h3, cell_below hb h4, cell_below hb h5, cell_below hb h6, cell_below hb h7, cell_below hb h8, cell_below hb h9⟩, via hB hb⟩
theorem sq_drew (h : Sq W g ao n c out p q r s p2 q2 r2 s2 w') : Sq W g ao n c out p q r s p2 q2 r2 s2 w'.drew := sq_below h (Below.refl _ _).drew
theorem sq_alloc {o : Obj} (h : Sq W g ao n c out p q r s p2 q2 r2 s2 w') : Sq W g ao n c out p q r s p2 q2 r2 s2 (w'.alloc o) := sq_below h (al o)
theorem sq_set4 {sb : Nat} {u0 u1 u2 u3 : Value} (h : Sq W g ao n c out p q r s p2 q2 r2 s2 w') (hg : g + 1 + 1 < W.heap.size) (hs : W.heap.size ≤ sb) : Sq W g ao n c out p q r s p2 q2 r2 s2 ((((w'.setCell ⟨sb, 0, none⟩ u0).setCell ⟨sb, 1, none⟩ u1).setCell ⟨sb, 2, none⟩ u2).setCell ⟨sb, 3, none⟩ u3) := by
  have hb := but_set4 w' sb 0 1 2 3 u0 u1 u2 u3
  have hz := h.2.size
  have e : ∀ k, k ≤ g + 1 + 1 → ∀ j, _ := fun k hk j => World.cell?_of_block (a := ⟨k, j, none⟩) (hb.block k (by omega) (by omega))
  obtain ⟨⟨h0, h1, h2, h3, h4, h5, h6, h7, h8, h9⟩, hB⟩ := h
  exact ⟨⟨(e (g) (by omega) 0).trans h0, (e (g) (by omega) 1).trans h1, (e (g + 1) (by omega) 0).trans h2, (e (g + 1) (by omega) 1).trans h3, (e (g + 1) (by omega) 2).trans h4, (e (g + 1) (by omega) 3).trans h5, (e (g + 1 + 1) (by omega) 0).trans h6, (e (g + 1 + 1) (by omega) 1).trans h7, (e (g + 1 + 1) (by omega) 2).trans h8, (e (g + 1 + 1) (by omega) 3).trans h9⟩, low4 hB hs _ _ _ _⟩
end
/-- what the drawn region leaves behind -/
structure Af (W : World) (n kb sb : Nat) (M : List R) (T : R) (X : World) : Prop where
  o : Rg.Ow W.heap.size X (some ⟨kb, 0, none⟩) n n kb 0 M
  t : Rg.Rc.Has4 X sb (.int .i64 T.x0) (.int .i64 T.y0) (.int .i64 T.x1) (.int .i64 T.y1)
  b : Below W.heap.size W X
theorem pack {W X : World} {n kb sb : Nat} {M : List R} {T : R} (h : Af W n kb sb M T X) : ∃ sb' W2, sb' = sb ∧ W2 = X ∧ Af W n kb sb' M T W2 := ⟨sb, X, rfl, rfl, h⟩
theorem gr_new (W w : World) {w2 : World} (hW : W.heap.size ≤ w.heap.size) (hb : Below (w.alloc (.cells #[.int .i64 0, .int .i64 0, .int .i64 0, .int .i64 0] 26)).heap.size (w.alloc (.cells #[.int .i64 0, .int .i64 0, .int .i64 0, .int .i64 0] 26)) w2) : Rg.Rc.Has4 w2 w.heap.size (.int .i64 0) (.int .i64 0) (.int .i64 0) (.int .i64 0) := (Rg.Rc.Has4.new (W := w) (k := w.heap.size) rfl _ _ _ _ _).below hb
theorem gr_s2 {B kb sb n : Nat} {W wd : World} {M : List R} {T : R} (hO : Rg.Ow B wd (some ⟨kb, 0, none⟩) n n kb 0 M) (hWB : W.heap.size ≤ B) (hB : Below W.heap.size W wd) (hZ : Rg.Rc.Has4 wd sb (.int .i64 0) (.int .i64 0) (.int .i64 0) (.int .i64 0)) (hs : sb < B) (hW : W.heap.size ≤ sb) : Af W n kb sb M T ((((wd.setCell ⟨sb, 0, none⟩ (.int .i64 T.x0)).setCell ⟨sb, 1, none⟩ (.int .i64 T.y0)).setCell ⟨sb, 2, none⟩ (.int .i64 T.x1)).setCell ⟨sb, 3, none⟩ (.int .i64 T.y1)) := by
  have hb4 := but_set4 wd sb 0 1 2 3 (.int .i64 T.x0) (.int .i64 T.y0) (.int .i64 T.x1) (.int .i64 T.y1)
  refine ⟨(Rg.Oz.block hO hb4.size fun hc => hb4.block kb (hO.new hc).2 (by have := (hO.new hc).1; omega)).mono hWB, Rg.has4_set hZ _ _ _ _, low4 hB hW _ _ _ _⟩
theorem gr_s3 {B kb n : Nat} {W wd : World} {M : List R} {T : R} (hO : Rg.Ow B wd (some ⟨kb, 0, none⟩) n n kb 0 M) (hWB : W.heap.size ≤ B) (hB : Below W.heap.size W wd) : Af W n kb wd.heap.size M T (wd.alloc (.cells #[.int .i64 T.x0, .int .i64 T.y0, .int .i64 T.x1, .int .i64 T.y1] 26)) :=
  ⟨(hO.below (al _)).mono hWB, Rg.Rc.Has4.new (W := wd) (k := wd.heap.size) rfl _ _ _ _ _, via hB (al _)⟩
theorem all_z {W : World} {ao : Option Addr} {n c b off : Nat} {L : List Nv} {out : Int} (h : Vn W ao n c b off L) (hr : Rf n L out) (hz : (runN L out ⟨0, 0, 0, 0⟩).2 = nil) :
    Calls Tryd.prog 15 #[.agg #[.slice ao n c, .int .i64 out], .agg #[.int .i64 0, .int .i64 0, .int .i64 0, .int .i64 0]] W fun e w' => ∃ kb : Nat, e = .returned (.tuple #[.slice (some ⟨kb, 0, none⟩) n n, .agg #[.int .i64 0, .int .i64 0, .int .i64 0, .int .i64 0]]) ∧ Below W.heap.size W w' := by
  refine (all_c h hr Rg.Num.ok_nil).mono fun e w' hh => ?_
  obtain ⟨kb, he, -, hb⟩ := hh
  rw [hz] at he
  exact ⟨kb, he, hb⟩
/-- what stands while the lists are gone through -/
structure Gw (w wr : World) (n kl kb : Nat) (K M : List R) (s1 s2 s3 : Nat) (S T : R) : Prop where
  low : Below w.heap.size w wr
  l : Rg.Ow w.heap.size wr (some ⟨kl, 0, none⟩) n n kl 0 K
  m : Rg.Ow w.heap.size wr (some ⟨kb, 0, none⟩) n n kb 0 M
  s : Rg.Rc.Has4 wr s1 (.int .i64 S.x0) (.int .i64 S.y0) (.int .i64 S.x1) (.int .i64 S.y1)
  t : Rg.Rc.Has4 wr s2 (.int .i64 T.x0) (.int .i64 T.y0) (.int .i64 T.x1) (.int .i64 T.y1)
  z : Rg.Rc.Has4 wr s3 (.int .i64 0) (.int .i64 0) (.int .i64 0) (.int .i64 0)
theorem Gw.to {w wr w' : World} {n kl kb : Nat} {K M : List R} {s1 s2 s3 : Nat} {S T : R} (h : Gw w wr n kl kb K M s1 s2 s3 S T) (hb : Below wr.heap.size wr w') : Gw w w' n kl kb K M s1 s2 s3 S T := ⟨via h.low hb, h.l.below hb, h.m.below hb, h.s.below hb, h.t.below hb, h.z.below hb⟩
abbrev S9 (W : World) (kl kb o : Nat) (U V : R) (w' : World) : Prop := (w'.cell? ⟨kl, o, none⟩ = some (.int .i64 U.x0) ∧ w'.cell? ⟨kl, o + 1, none⟩ = some (.int .i64 U.y0) ∧ w'.cell? ⟨kl, o + 2, none⟩ = some (.int .i64 U.x1) ∧ w'.cell? ⟨kl, o + 3, none⟩ = some (.int .i64 U.y1) ∧ w'.cell? ⟨kb, o, none⟩ = some (.int .i64 V.x0) ∧ w'.cell? ⟨kb, o + 1, none⟩ = some (.int .i64 V.y0) ∧ w'.cell? ⟨kb, o + 2, none⟩ = some (.int .i64 V.x1) ∧ w'.cell? ⟨kb, o + 3, none⟩ = some (.int .i64 V.y1)) ∧ Below W.heap.size W w'
section
variable {W : World} {kl kb o : Nat} {U V : R} {w' : World}
theorem s9_below {w2 : World} (h : S9 W kl kb o U V w') (hb : Below w'.heap.size w' w2) : S9 W kl kb o U V w2 := by
  obtain ⟨⟨h0, h1, h2, h3, h4, h5, h6, h7⟩, hB⟩ := h
  exact ⟨⟨cell_below hb h0, cell_below hb h1, cell_below hb h2, cell_below hb h3, cell_below hb h4, cell_below hb h5, cell_below hb h6, cell_below hb h7⟩, via hB hb⟩
theorem s9_drew (h : S9 W kl kb o U V w') : S9 W kl kb o U V w'.drew := s9_below h (Below.refl _ _).drew
end
set_option maxRecDepth 100000 in
set_option maxHeartbeats 8000000 in
theorem walk (ao : Option Addr) (n c b off : Nat) (L : List Nv) (out : Int) (p q r s p2 q2 r2 s2 : Int) (w : World) (h : Vn w ao n c b off L) (hT : Tabs w) :
    Calls Tryd.prog 6 #[.agg #[.slice ao n c, .int .i64 out], .agg #[.int .i64 p, .int .i64 q, .int .i64 r, .int .i64 s], .agg #[.int .i64 p2, .int .i64 q2, .int .i64 r2, .int .i64 s2]] w fun e w' => e = .returned (.bool true) ∧ Below w.heap.size w w' := by
  have hl := vn_len h
  have HS := hid (lg2_new w ao n c out p q r s p2 q2 r2 s2)
  have HV := hid h
  have HT := hid hT
  have HL := hid hl
  clear h hT
  rcases hr : rightG L out with _ | _
  · have HR := hid hr
    clear hr hl
    go_enter Tryd.func6, Tryd.ntmps6
    go_wp2_with (first
      | (go_at_call 8; with_reducible refine Calls.mono (awake_any _) ?_; rintro e wa ⟨rfl, hb⟩; replace HS := hid (HS.out.to hb); (try clear x0c x1c a0 a1 a2 a3 af b0 b1 b2 b3 bf); obtain ⟨x0c, x1c⟩ := HS.out.g.g.1; obtain ⟨a0, a1, a2, a3, af⟩ := id HS.out.g.s; obtain ⟨b0, b1, b2, b3, bf⟩ := id HS.out.t; (try clear jn j1 j2); have jn := World.block_lt_of_cell? _ _ x0c; have j1 := World.block_lt_of_cell? _ _ a0; have j2 := World.block_lt_of_cell? _ _ b0; clear hb)
      | (go_at_call 14; with_reducible refine Calls.mono (right_any _ _ _ b off L _ _ (HT.out.below HS.out.low) (HV.out.below HS.out.low)) ?_; rintro e wa ⟨rfl, hb⟩; rw [HR.out]; replace HS := hid (HS.out.to hb); (try clear x0c x1c a0 a1 a2 a3 af b0 b1 b2 b3 bf); obtain ⟨x0c, x1c⟩ := HS.out.g.g.1; obtain ⟨a0, a1, a2, a3, af⟩ := id HS.out.g.s; obtain ⟨b0, b1, b2, b3, bf⟩ := id HS.out.t; (try clear jn j1 j2); have jn := World.block_lt_of_cell? _ _ x0c; have j1 := World.block_lt_of_cell? _ _ a0; have j2 := World.block_lt_of_cell? _ _ b0; clear hb))
    go_ret
    exact ⟨rfl, HS.out.low⟩
  have hrf := rf_of hl hr
  have HR := hid hr
  have HF := hid hrf
  clear hr hrf hl
  rcases ho : Rg.Num.rightB ⟨p, q, r, s⟩ with _ | _
  · have HO1 := hid ho
    clear ho
    go_enter Tryd.func6, Tryd.ntmps6
    go_wp2_with (first
      | (go_at_call 8; with_reducible refine Calls.mono (awake_any _) ?_; rintro e wa ⟨rfl, hb⟩; replace HS := hid (HS.out.to hb); (try clear x0c x1c a0 a1 a2 a3 af b0 b1 b2 b3 bf); obtain ⟨x0c, x1c⟩ := HS.out.g.g.1; obtain ⟨a0, a1, a2, a3, af⟩ := id HS.out.g.s; obtain ⟨b0, b1, b2, b3, bf⟩ := id HS.out.t; (try clear jn j1 j2); have jn := World.block_lt_of_cell? _ _ x0c; have j1 := World.block_lt_of_cell? _ _ a0; have j2 := World.block_lt_of_cell? _ _ b0; clear hb)
      | (go_at_call 14; with_reducible refine Calls.mono (right_any _ _ _ b off L _ _ (HT.out.below HS.out.low) (HV.out.below HS.out.low)) ?_; rintro e wa ⟨rfl, hb⟩; rw [HR.out]; replace HS := hid (HS.out.to hb); (try clear x0c x1c a0 a1 a2 a3 af b0 b1 b2 b3 bf); obtain ⟨x0c, x1c⟩ := HS.out.g.g.1; obtain ⟨a0, a1, a2, a3, af⟩ := id HS.out.g.s; obtain ⟨b0, b1, b2, b3, bf⟩ := id HS.out.t; (try clear jn j1 j2); have jn := World.block_lt_of_cell? _ _ x0c; have j1 := World.block_lt_of_cell? _ _ a0; have j2 := World.block_lt_of_cell? _ _ b0; clear hb)
      | (go_at_call 10; with_reducible refine Calls.mono (Rg.Rc.right_any p q r s _) ?_; rintro e wa ⟨rfl, hb⟩; rw [HO1.out]; replace HS := hid (HS.out.to hb); (try clear x0c x1c a0 a1 a2 a3 af b0 b1 b2 b3 bf); obtain ⟨x0c, x1c⟩ := HS.out.g.g.1; obtain ⟨a0, a1, a2, a3, af⟩ := id HS.out.g.s; obtain ⟨b0, b1, b2, b3, bf⟩ := id HS.out.t; (try clear jn j1 j2); have jn := World.block_lt_of_cell? _ _ x0c; have j1 := World.block_lt_of_cell? _ _ a0; have j2 := World.block_lt_of_cell? _ _ b0; clear hb))
    go_ret
    exact ⟨rfl, HS.out.low⟩
  have HO1 := hid ho
  have HK1 := hid (ok_right ho)
  clear ho
  rcases ho : Rg.Num.rightB ⟨p2, q2, r2, s2⟩ with _ | _
  · have HO2 := hid ho
    clear ho
    go_enter Tryd.func6, Tryd.ntmps6
    go_wp2_with (first
      | (go_at_call 8; with_reducible refine Calls.mono (awake_any _) ?_; rintro e wa ⟨rfl, hb⟩; replace HS := hid (HS.out.to hb); (try clear x0c x1c a0 a1 a2 a3 af b0 b1 b2 b3 bf); obtain ⟨x0c, x1c⟩ := HS.out.g.g.1; obtain ⟨a0, a1, a2, a3, af⟩ := id HS.out.g.s; obtain ⟨b0, b1, b2, b3, bf⟩ := id HS.out.t; (try clear jn j1 j2); have jn := World.block_lt_of_cell? _ _ x0c; have j1 := World.block_lt_of_cell? _ _ a0; have j2 := World.block_lt_of_cell? _ _ b0; clear hb)
      | (go_at_call 14; with_reducible refine Calls.mono (right_any _ _ _ b off L _ _ (HT.out.below HS.out.low) (HV.out.below HS.out.low)) ?_; rintro e wa ⟨rfl, hb⟩; rw [HR.out]; replace HS := hid (HS.out.to hb); (try clear x0c x1c a0 a1 a2 a3 af b0 b1 b2 b3 bf); obtain ⟨x0c, x1c⟩ := HS.out.g.g.1; obtain ⟨a0, a1, a2, a3, af⟩ := id HS.out.g.s; obtain ⟨b0, b1, b2, b3, bf⟩ := id HS.out.t; (try clear jn j1 j2); have jn := World.block_lt_of_cell? _ _ x0c; have j1 := World.block_lt_of_cell? _ _ a0; have j2 := World.block_lt_of_cell? _ _ b0; clear hb)
      | (go_at_call 10; with_reducible refine Calls.mono (Rg.Rc.right_any p q r s _) ?_; rintro e wa ⟨rfl, hb⟩; rw [HO1.out]; replace HS := hid (HS.out.to hb); (try clear x0c x1c a0 a1 a2 a3 af b0 b1 b2 b3 bf); obtain ⟨x0c, x1c⟩ := HS.out.g.g.1; obtain ⟨a0, a1, a2, a3, af⟩ := id HS.out.g.s; obtain ⟨b0, b1, b2, b3, bf⟩ := id HS.out.t; (try clear jn j1 j2); have jn := World.block_lt_of_cell? _ _ x0c; have j1 := World.block_lt_of_cell? _ _ a0; have j2 := World.block_lt_of_cell? _ _ b0; clear hb)
      | (go_at_call 10; with_reducible refine Calls.mono (Rg.Rc.right_any p2 q2 r2 s2 _) ?_; rintro e wa ⟨rfl, hb⟩; rw [HO2.out]; replace HS := hid (HS.out.to hb); (try clear x0c x1c a0 a1 a2 a3 af b0 b1 b2 b3 bf); obtain ⟨x0c, x1c⟩ := HS.out.g.g.1; obtain ⟨a0, a1, a2, a3, af⟩ := id HS.out.g.s; obtain ⟨b0, b1, b2, b3, bf⟩ := id HS.out.t; (try clear jn j1 j2); have jn := World.block_lt_of_cell? _ _ x0c; have j1 := World.block_lt_of_cell? _ _ a0; have j2 := World.block_lt_of_cell? _ _ b0; clear hb))
    go_ret
    exact ⟨rfl, HS.out.low⟩
  have HO2 := hid ho
  have HK2 := hid (ok_right ho)
  clear ho
  have hn1 := HF.out.f.n
  obtain ⟨J, hJ⟩ : ∃ J, J = join ⟨p, q, r, s⟩ ⟨p2, q2, r2, s2⟩ := ⟨_, rfl⟩
  have hJo : Ok ⟨J.x0, J.y0, J.x1, J.y1⟩ := by rw [hJ]; exact Rg.Num.ok_join HK1.out HK2.out
  have HJo := hid hJo
  have hsolA := run_sol HL.out HF.out HK1.out
  have hsolB : Sol L out J (fK (runN L out J).1) (runN L out J).2 := run_sol HL.out HF.out hJo
  have hokA := run_ok HL.out HF.out HK1.out
  have hokB : Oks (runN L out J) := run_ok HL.out HF.out hJo
  have hlenA := run_len HL.out HF.out HK1.out
  have hlenB : (runN L out J).1.length = n := run_len HL.out HF.out hJo
  have hins : Ins ⟨p, q, r, s⟩ J := by rw [hJ]; exact join_l _ _
  have hg := sol_grow HF.out.a hins hsolA hsolB (fun a _ => fK_ok hokA.k a) (fun a _ => fK_ok hokB.k a)
  have hz := (sol_nil HF.out.a (want := ⟨0, 0, 0, 0⟩) (by decide) (run_sol (want := ⟨0, 0, 0, 0⟩) HL.out HF.out Rg.Num.ok_nil)).2
  have HZN := hid hz
  have HG := hid (And.intro (fun i (hi : i < n) => (win_iff _ _).2 (hg.1 i (by rw [HL.out]; exact hi))) (And.intro ((win_iff _ _).2 hg.2) (And.intro hokA (And.intro hlenA hlenB))))
  have HJ := hid hJ
  clear hsolA hsolB hokA hokB hlenA hlenB hins hg hz hJ hJo
  go_enter Tryd.func6, Tryd.ntmps6
  go_wp2_with (first
    | (go_at_call 8; with_reducible refine Calls.mono (awake_any _) ?_; rintro e wa ⟨rfl, hb⟩; replace HS := hid (HS.out.to hb); (try clear x0c x1c a0 a1 a2 a3 af b0 b1 b2 b3 bf); obtain ⟨x0c, x1c⟩ := HS.out.g.g.1; obtain ⟨a0, a1, a2, a3, af⟩ := id HS.out.g.s; obtain ⟨b0, b1, b2, b3, bf⟩ := id HS.out.t; (try clear jn j1 j2); have jn := World.block_lt_of_cell? _ _ x0c; have j1 := World.block_lt_of_cell? _ _ a0; have j2 := World.block_lt_of_cell? _ _ b0; clear hb)
    | (go_at_call 14; with_reducible refine Calls.mono (right_any _ _ _ b off L _ _ (HT.out.below HS.out.low) (HV.out.below HS.out.low)) ?_; rintro e wa ⟨rfl, hb⟩; rw [HR.out]; replace HS := hid (HS.out.to hb); (try clear x0c x1c a0 a1 a2 a3 af b0 b1 b2 b3 bf); obtain ⟨x0c, x1c⟩ := HS.out.g.g.1; obtain ⟨a0, a1, a2, a3, af⟩ := id HS.out.g.s; obtain ⟨b0, b1, b2, b3, bf⟩ := id HS.out.t; (try clear jn j1 j2); have jn := World.block_lt_of_cell? _ _ x0c; have j1 := World.block_lt_of_cell? _ _ a0; have j2 := World.block_lt_of_cell? _ _ b0; clear hb)
    | (go_at_call 10; with_reducible refine Calls.mono (Rg.Rc.right_any p q r s _) ?_; rintro e wa ⟨rfl, hb⟩; rw [HO1.out]; replace HS := hid (HS.out.to hb); (try clear x0c x1c a0 a1 a2 a3 af b0 b1 b2 b3 bf); obtain ⟨x0c, x1c⟩ := HS.out.g.g.1; obtain ⟨a0, a1, a2, a3, af⟩ := id HS.out.g.s; obtain ⟨b0, b1, b2, b3, bf⟩ := id HS.out.t; (try clear jn j1 j2); have jn := World.block_lt_of_cell? _ _ x0c; have j1 := World.block_lt_of_cell? _ _ a0; have j2 := World.block_lt_of_cell? _ _ b0; clear hb)
    | (go_at_call 10; with_reducible refine Calls.mono (Rg.Rc.right_any p2 q2 r2 s2 _) ?_; rintro e wa ⟨rfl, hb⟩; rw [HO2.out]; replace HS := hid (HS.out.to hb); (try clear x0c x1c a0 a1 a2 a3 af b0 b1 b2 b3 bf); obtain ⟨x0c, x1c⟩ := HS.out.g.g.1; obtain ⟨a0, a1, a2, a3, af⟩ := id HS.out.g.s; obtain ⟨b0, b1, b2, b3, bf⟩ := id HS.out.t; (try clear jn j1 j2); have jn := World.block_lt_of_cell? _ _ x0c; have j1 := World.block_lt_of_cell? _ _ a0; have j2 := World.block_lt_of_cell? _ _ b0; clear hb)
    | (go_at_call 15; with_reducible refine Calls.mono (all_c (HV.out.below HS.out.low) HF.out HK1.out) ?_; rintro e wl ⟨kl, rfl, hO, hb⟩; have H1 := hO; have HL0 := hid HS.out.low.size; replace HS := hid (HS.out.to hb); (try clear x0c x1c a0 a1 a2 a3 af b0 b1 b2 b3 bf); obtain ⟨x0c, x1c⟩ := HS.out.g.g.1; obtain ⟨a0, a1, a2, a3, af⟩ := id HS.out.g.s; obtain ⟨b0, b1, b2, b3, bf⟩ := id HS.out.t; (try clear jn j1 j2); have jn := World.block_lt_of_cell? _ _ x0c; have j1 := World.block_lt_of_cell? _ _ a0; have j2 := World.block_lt_of_cell? _ _ b0; clear hb; clear hO))
  have h3 := Rg.Rc.Has4.new (W := wl) (k := wl.heap.size) rfl (.int .i64 (runN L out ⟨p, q, r, s⟩).2.x0) (.int .i64 (runN L out ⟨p, q, r, s⟩).2.y0) (.int .i64 (runN L out ⟨p, q, r, s⟩).2.x1) (.int .i64 (runN L out ⟨p, q, r, s⟩).2.y1) 26
  have hS2 := HS.out.to (al (.cells #[.int .i64 (runN L out ⟨p, q, r, s⟩).2.x0, .int .i64 (runN L out ⟨p, q, r, s⟩).2.y0, .int .i64 (runN L out ⟨p, q, r, s⟩).2.x1, .int .i64 (runN L out ⟨p, q, r, s⟩).2.y1] 26))
  have hlo := H1.out.below (al (.cells #[.int .i64 (runN L out ⟨p, q, r, s⟩).2.x0, .int .i64 (runN L out ⟨p, q, r, s⟩).2.y0, .int .i64 (runN L out ⟨p, q, r, s⟩).2.x1, .int .i64 (runN L out ⟨p, q, r, s⟩).2.y1] 26))
  clear x0c x1c a0 a1 a2 a3 af b0 b1 b2 b3 bf jn j1 j2
  generalize hWd : wl.alloc (.cells #[.int .i64 (runN L out ⟨p, q, r, s⟩).2.x0, .int .i64 (runN L out ⟨p, q, r, s⟩).2.y0, .int .i64 (runN L out ⟨p, q, r, s⟩).2.x1, .int .i64 (runN L out ⟨p, q, r, s⟩).2.y1] 26) = W at *
  obtain ⟨x0c, x1c⟩ := hS2.g.g.1
  obtain ⟨a0, a1, a2, a3, af⟩ := id hS2.g.s
  obtain ⟨b0, b1, b2, b3, bf⟩ := id hS2.t
  have HW0 := hid hS2.low
  have hSq : Sq W w.heap.size ao n c out p q r s p2 q2 r2 s2 W := ⟨⟨x0c, x1c, a0, a1, a2, a3, b0, b1, b2, b3⟩, Below.refl _ _⟩
  have hk2 : w.heap.size + 1 + 1 < W.heap.size := World.block_lt_of_cell? _ _ b0
  have hsz0 : W.heap.size ≤ W.heap.size := Nat.le_refl _
  have HB := hid (Below.refl W.heap.size W).drew
  have HX := hid (And.intro h3 (hlo.mono HL0.out))
  have HS2 := hid hS2
  clear h3 hS2 hlo x0c x1c a0 a1 a2 a3 af b0 b1 b2 b3 bf hWd HS H1 HL0
  go_region_held3 (fun w' => (w'.cell? ⟨w.heap.size, 0, none⟩ = some (.slice ao n c) ∧ w'.cell? ⟨w.heap.size, 1, none⟩ = some (.int .i64 out) ∧ w'.cell? ⟨w.heap.size + 1, 0, none⟩ = some (.int .i64 p) ∧ w'.cell? ⟨w.heap.size + 1, 1, none⟩ = some (.int .i64 q) ∧ w'.cell? ⟨w.heap.size + 1, 2, none⟩ = some (.int .i64 r) ∧ w'.cell? ⟨w.heap.size + 1, 3, none⟩ = some (.int .i64 s) ∧ w'.cell? ⟨w.heap.size + 1 + 1, 0, none⟩ = some (.int .i64 p2) ∧ w'.cell? ⟨w.heap.size + 1 + 1, 1, none⟩ = some (.int .i64 q2) ∧ w'.cell? ⟨w.heap.size + 1 + 1, 2, none⟩ = some (.int .i64 r2) ∧ w'.cell? ⟨w.heap.size + 1 + 1, 3, none⟩ = some (.int .i64 s2)) ∧ Below W.heap.size W w') (repeat (first | with_reducible assumption | with_reducible refine sq_drew ?_ | with_reducible refine sq_set4 ?_ ‹_› ‹_› | with_reducible refine sq_below ?_ ‹_› | with_reducible refine sq_alloc ?_)) ((first
    | (go_at_call 19; refine Calls.mono (Rg.Rc.refJoin_any p q r s p2 q2 r2 s2 _) ?_; rintro e wc ⟨rfl, hb⟩; rw [← HJ.out]; first
      | (replace HB := hid (via HB.out hb); have hsz : W.heap.size ≤ wc.heap.size := HB.out.size)
      | (have HZ0 : Hid (Rg.Rc.Has4 wc W.heap.size (.int .i64 0) (.int .i64 0) (.int .i64 0) (.int .i64 0)) := hid (gr_new W W.drew (Nat.le_refl _) hb); replace HB := hid (via HB.out (via (al _) hb)); have hsz : W.heap.size + 1 ≤ wc.heap.size := by have h1 := hb.size; simpa using h1))
    | (go_at_call 15; first
      | (refine Calls.mono (all_c (HV.out.below (via HW0.out HB.out)) HF.out HJo.out) ?_; rintro e wd ⟨kb, rfl, HO, hb⟩; have HWB := hid HB.out.size; (try (have HZ := hid (HZ0.out.below hb); obtain ⟨z0, z1, z2, z3, zf⟩ := id HZ.out)); replace HB := hid (via HB.out hb))
      | (refine Calls.mono (all_c (HV.out.below (via HW0.out (via HB.out (al _)))) HF.out HJo.out) ?_; rintro e wd ⟨kb, rfl, HO, hb⟩; have HWB := hid (via HB.out (al (.cells #[.int .i64 0, .int .i64 0, .int .i64 0, .int .i64 0] 26))).size; have HZ := hid (gr_new W wc hsz hb); obtain ⟨z0, z1, z2, z3, zf⟩ := id HZ.out; replace HB := hid (via HB.out (via (al _) hb))))))
  all_goals (
    first
      | have hA := pack (gr_s2 (T := (runN L out J).2) HO.out HWB.out HB.out HZ.out (by first | omega | (simp only [World.size_alloc]; omega)) (by omega))
      | have hA := pack (gr_s3 (T := (runN L out J).2) HO.out HWB.out HB.out)
    obtain ⟨sb, W2, hsb, hW2, hA⟩ := hA
    rw [← hW2, ← hsb]
    clear hW2 hSq hsb HO HWB
    (try clear z0 z1 z2 z3 zf)
    (try clear HZ)
    (try clear HZ0)
    have HA := hid hA
    obtain ⟨⟨x0c, x1c⟩, -⟩ := id (HS2.out.to hA.b).g.g
    clear hA
    go_wp2_with (go_at_call 15; with_reducible refine Calls.mono (all_z (HV.out.below (via HW0.out HA.out.b)) HF.out HZN.out) ?_; rintro e wz ⟨kz, rfl, hb⟩; have H5 := hid hb; clear hb x0c x1c)
    have hGw : Gw w (wz.alloc (.cells #[.int .i64 0, .int .i64 0, .int .i64 0, .int .i64 0] 26)) n kl kb (runN L out ⟨p, q, r, s⟩).1 (runN L out J).1 wl.heap.size sb wz.heap.size (runN L out ⟨p, q, r, s⟩).2 (runN L out J).2 := ⟨via (via (via HW0.out HA.out.b) H5.out) (al _), ((HX.out.2.below HA.out.b).below H5.out).below (al _), ((HA.out.o.mono HW0.out.size).below H5.out).below (al _), ((HX.out.1.below HA.out.b).below H5.out).below (al _), (HA.out.t.below H5.out).below (al _), Rg.Rc.Has4.new (W := wz) (k := wz.heap.size) rfl _ _ _ _ _⟩
    have HGw := hid hGw
    clear hGw
    go_loopg [13] n (fun g v13 wr => ∃ i : Nat, i ≤ n ∧ g = n - i ∧ v13 = .int .i64 i ∧ Gw w wr n kl kb (runN L out ⟨p, q, r, s⟩).1 (runN L out J).1 wl.heap.size sb wz.heap.size (runN L out ⟨p, q, r, s⟩).2 (runN L out J).2)
    case atStart => exact ⟨0, Nat.zero_le _, rfl, rfl, HGw.out⟩
    case round =>
      obtain ⟨i, hi, rfl, rfl, hG⟩ := hrel
      clear HGw
      have HGr := hid hG
      by_cases hlt : i < n
      case neg =>
        obtain rfl : i = n := by omega
        obtain ⟨e0, e1, e2, e3, ef⟩ := id hG.s
        obtain ⟨f0, f1, f2, f3, ff⟩ := id hG.t
        clear hG
        go_wp2_with (go_at_call 18; with_reducible refine Calls.mono (refWithin_any (runN L out ⟨p, q, r, s⟩).2.x0 (runN L out ⟨p, q, r, s⟩).2.y0 (runN L out ⟨p, q, r, s⟩).2.x1 (runN L out ⟨p, q, r, s⟩).2.y1 (runN L out J).2.x0 (runN L out J).2.y0 (runN L out J).2.x1 (runN L out J).2.y1 _ HG.out.2.2.1.s) ?_; rintro e wq ⟨rfl, hb⟩; rw [show winB ⟨(runN L out ⟨p, q, r, s⟩).2.x0, (runN L out ⟨p, q, r, s⟩).2.y0, (runN L out ⟨p, q, r, s⟩).2.x1, (runN L out ⟨p, q, r, s⟩).2.y1⟩ ⟨(runN L out J).2.x0, (runN L out J).2.y0, (runN L out J).2.x1, (runN L out J).2.y1⟩ = true from HG.out.2.1]; clear e0 e1 e2 e3 ef f0 f1 f2 f3 ff; have HGq := hid (HGr.out.to hb); obtain ⟨z0, z1, z2, z3, zf⟩ := id HGq.out.z; clear hb)
        go_ret
        exact ⟨rfl, HGq.out.low⟩
      have hiz : (i : Int) < (n : Int) := by omega
      obtain ⟨U, hU⟩ : ∃ U, U = fK (runN L out ⟨p, q, r, s⟩).1 i := ⟨_, rfl⟩
      obtain ⟨V, hV⟩ : ∃ V, V = fK (runN L out J).1 i := ⟨_, rfl⟩
      obtain ⟨-, c0, c1, c2, c3⟩ := Rg.vw_at hG.l.v (fK_get (show i < (runN L out ⟨p, q, r, s⟩).1.length by rw [HG.out.2.2.2.1]; exact hlt))
      obtain ⟨-, d0, d1, d2, d3⟩ := Rg.vw_at hG.m.v (fK_get (show i < (runN L out J).1.length by rw [HG.out.2.2.2.2]; exact hlt))
      rw [Nat.zero_add, ← hU] at c0 c1 c2 c3
      rw [Nat.zero_add, ← hV] at d0 d1 d2 d3
      have hwin : winB ⟨U.x0, U.y0, U.x1, U.y1⟩ ⟨V.x0, V.y0, V.x1, V.y1⟩ = true := by rw [hU, hV]; exact HG.out.1 i hlt
      have hUo : Ok ⟨U.x0, U.y0, U.x1, U.y1⟩ := by rw [hU]; exact fK_ok HG.out.2.2.1.k i
      have HWin := hid (And.intro hwin hUo)
      have hS9 : S9 wr kl kb (i * 4) U V wr := ⟨⟨c0, c1, c2, c3, d0, d1, d2, d3⟩, Below.refl _ _⟩
      have HB9 := hid (Below.refl wr.heap.size wr).drew
      have hj1 : kl < wr.heap.size := World.block_lt_of_cell? _ _ c0
      have hj2 : kb < wr.heap.size := World.block_lt_of_cell? _ _ d0
      clear hG hU hV hwin hUo
      go_wp2
      go_region_held3 (fun w' => (w'.cell? ⟨kl, i * 4, none⟩ = some (.int .i64 U.x0) ∧ w'.cell? ⟨kl, i * 4 + 1, none⟩ = some (.int .i64 U.y0) ∧ w'.cell? ⟨kl, i * 4 + 2, none⟩ = some (.int .i64 U.x1) ∧ w'.cell? ⟨kl, i * 4 + 3, none⟩ = some (.int .i64 U.y1) ∧ w'.cell? ⟨kb, i * 4, none⟩ = some (.int .i64 V.x0) ∧ w'.cell? ⟨kb, i * 4 + 1, none⟩ = some (.int .i64 V.y0) ∧ w'.cell? ⟨kb, i * 4 + 2, none⟩ = some (.int .i64 V.x1) ∧ w'.cell? ⟨kb, i * 4 + 3, none⟩ = some (.int .i64 V.y1)) ∧ Below wr.heap.size wr w') (repeat (first | with_reducible assumption | with_reducible refine s9_drew ?_ | with_reducible refine s9_below ?_ ‹_›)) ((first
        | (go_at_call 18; with_reducible refine Calls.mono (refWithin_any U.x0 U.y0 U.x1 U.y1 V.x0 V.y0 V.x1 V.y1 _ HWin.out.2) ?_; rintro e wq ⟨rfl, hb9⟩; rw [HWin.out.1]; replace HB9 := hid (via HB9.out hb9))))
      go_wp2
      go_roundg (n - (i + 1))
      case measure => omega
      case rel => exact ⟨i + 1, hlt, rfl, by simp, HGr.out.to HB9.out⟩)

theorem own : ownKnob Tryd.prog.godebug = none := by kernel_rfl
theorem door_met (os : Os) (args : Array Value) : laidMetH Tryd.prog laid3 ((World.doorLaid Tryd.prog 24 os).forCall (fun _ _ => 0) ⟨#[], args, []⟩).memory :=
  laidMetH_of_parts3 (fuel := 8) (laidMet_of_run' 8 (by kernel_rfl) (by kernel_rfl)) (by kernel_rfl) (by kernel_rfl)

set_option maxHeartbeats 400000 in
set_option maxRecDepth 100000 in
theorem lifted (os : Os) (started : os.Started) (H : Type) (enc : TypeId × Value → H) :
    ReturnsInHanded {} Tryd.checked os 6 .any (fun w args => (Rows.needGrowsSpec.pre enc Tryd.prog Tryd.f6 [] false w args ∧ laidMetH Tryd.prog laid3 w) ∧ sizedMet enc Tryd.prog Tryd.f6 (OpenSpec.ofChange Rows.needGrowsSpec) false w args)
      (Rows.needGrowsSpec.post enc Tryd.prog Tryd.f6 false true false false) := by
  refine returnsInHanded_of_change_and (C := Tryd.checked) (X := fun w _ => laidMetH Tryd.prog laid3 w) (fun _ _ _ hh h => h.of_heap hh) own started (by kernel_rfl) Tryd.func6
    (ChangeSpec.witness_shaped (enc := enc) (C := Tryd.checked) (os := os) (X := fun w _ => laidMetH Tryd.prog laid3 w) false (World.doorLaid Tryd.prog 24 os) #[.agg #[.slice none 0 0, .int .i64 0], .agg #[.int .i64 0, .int .i64 0, .int .i64 0, .int .i64 0], .agg #[.int .i64 0, .int .i64 0, .int .i64 0, .int .i64 0]] 8 rfl (World.shaped_of_RefB (by kernel_rfl) (by kernel_rfl)) (by kernel_rfl) (by kernel_rfl) (by kernel_rfl) (door_met os _)) ?_
  intro W base args ds gs before hval0 hW _ _ hL _
  have hval : ∀ (j : Nat) t v, Tryd.f6.params[j]? = some t → args[j]? = some v → Value.okWide Tryd.prog W .any base t v := hval0
  have hW' := hW
  obtain ⟨p, q, hA0, hV, rfl, hfz, hnd⟩ := hW
  have hA : DataW.TrodAll enc Tryd.prog W 0 (fun _ => true) true Tryd.f6.params.toList args.toList ds p := hA0
  rw [Tryd.params6] at hA hval
  obtain ⟨v0, vs0, d0, ds0, p0, q0, hargs, rfl, rfl, h0, r0⟩ := trodAll_cons hA
  obtain ⟨v1, vs1, d1, ds1, p1, q1, rfl, rfl, rfl, h1, r1⟩ := trodAll_cons r0
  obtain ⟨v2, vs2, d2, ds2, p2, q2, rfl, rfl, rfl, h2, r2⟩ := trodAll_cons r1
  obtain ⟨rfl, rfl, rfl⟩ := trodAll_nil r2
  obtain rfl : args = #[v0, v1, v2] := by cases args; simp_all
  obtain ⟨rfl, rfl⟩ := trodVars_none hV
  obtain ⟨ao0, n0, c0, b0, off0, L0, out0, rfl, hv0⟩ := open_graph (hval 0 36 v0 rfl rfl) h0
  obtain ⟨x1, y1, z1, t1, rfl⟩ := open_rect (hval 1 26 v1 rfl rfl) h1
  obtain ⟨x2, y2, z2, t2, rfl⟩ := open_rect (hval 2 26 v2 rfl rfl) h2
  clear hA0 hval0
  have hT := tabs_of hL
  simp only [List.append_nil] at hW'
  have hlt0 : ∀ x ∈ p0, x.block < W.heap.size := fun x hx => hW'.lt x (by simp [hx])
  have hlt1 : ∀ x ∈ p1, x.block < W.heap.size := fun x hx => hW'.lt x (by simp [hx])
  have hlt2 : ∀ x ∈ p2, x.block < W.heap.size := fun x hx => hW'.lt x (by simp [hx])
  refine (walk ao0 n0 c0 b0 off0 L0 out0 x1 y1 z1 t1 x2 y2 z2 t2 W hv0 hT).mono fun e W' ⟨he, hg⟩ => ?_
  subst he
  have tr0 := Below.trod laidOut (by kernel_rfl) (of_decide_eq_true (by kernel_rfl)) h0 hg (fun x hx => hlt0 x hx)
  have tr1 := Below.trod laidOut (by kernel_rfl) (of_decide_eq_true (by kernel_rfl)) h1 hg (fun x hx => hlt1 x hx)
  have tr2 := Below.trod laidOut (by kernel_rfl) (of_decide_eq_true (by kernel_rfl)) h2 hg (fun x hx => hlt2 x hx)
  exact ⟨_, rfl, ⟨_, _, _, _, _, _, hW', (trodAll_cons_mk (shut_bool Tryd.underlying4 _) trodAll_mk0), (trodAll_cons_mk tr0 (trodAll_cons_mk tr1 (trodAll_cons_mk tr2 trodAll_mk0))), rfl, hg.frame _, fun h => by cases h⟩⟩

theorem over : Rows.NeedGrowsSaid :=
  OpenClaim.holds_of_wide 6 Tryd.f6 rfl rfl rfl rfl rfl rfl rfl ⟨rfl, rfl, rfl, rfl, rfl⟩ rfl rfl rfl rfl rfl (by kernel_rfl) Tryd.func6 (by kernel_rfl)
    (of_decide_eq_true (by kernel_rfl)) (by unfold Func.isWrapper; first | (rw [if_pos (by decide +kernel)]; kernel_rfl) | (rw [if_neg (by decide +kernel)]; exact ⟨rfl, rfl⟩))
    (fun os started H enc _ => lifted os started H enc)

theorem proved : Rows.NeedGrowsCardSaid :=
  Claim7.holds_tied_plain_at .later [] [.data, .data, .data] true (true, "71b3e36144abff0af242cc6e68620bceea4b925d8c9046e5d34f8d7acc8bfaac") true
    over (fun _ h => by cases h) (by kernel_rfl) (fun _ h => by cases h) needGrows_row_tie rfl ⟨rfl, rfl⟩ (by kernel_rfl) rfl
    (fun f fn hf hfn => by
      obtain rfl : f = 6 := Option.some.inj ((show Tryd.prog.funcNamed "gouache/gouachelaw14.NeedGrows" = some 6 by kernel_rfl).symm.trans hf) |>.symm
      obtain rfl : fn = Tryd.f6 := (Option.some.inj (Tryd.func6.symm.trans hfn)).symm
      exact ⟨by kernel_rfl, fun j t ht => by
        rw [Tryd.params6] at ht
        have hm : t ∈ [36, 26, 26] := by simpa using Array.mem_of_getElem? ht
        have hall : ([36, 26, 26].all fun u => !Tryd.prog.wantsStandIn u) = true := by kernel_rfl
        exact (show Tryd.prog.wantsStandIn t = false by simpa using List.all_eq_true.1 hall t hm)⟩)
    (by kernel_rfl)
#print axioms proved
end Go.Proofs.YtamojciiacmjaaaDoor.needGrows
