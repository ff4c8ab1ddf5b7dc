/- The document's blurred box: the contract. -/
import Derived.Test.YtbcgnnjkhgpkmaaAlongY
import Derived.Test.YtbcgnnjkhgpkmaaRBoxH
namespace Go.Proofs.Ytbcgnnjkhgpkmaa
open Num Go.RowKit
set_option linter.unusedVariables false
set_option linter.unusedSimpArgs false

set_option maxRecDepth 100000 in
set_option maxHeartbeats 4000000 in
theorem refBox_any (B : R) (ao : Option Addr) (n m g off : Nat) (f : Int → Int → X) (D : R) (rx ry : Nat) (w : World) (hBo : Ok B) (hn : n ≤ 5000) (hV : Vx w ao n m g off (img B f)) (hb : ∀ x y, byteX (f x y)) (hD : Half D) (ha : area (grow D (rx : Int) (ry : Int) (rx : Int) (ry : Int)) ≤ 5000) (hx : rx ≤ 255) (hy : ry ≤ 255) :
    Calls Try.prog 13 #[.agg #[.int .i64 B.x0, .int .i64 B.y0, .int .i64 B.x1, .int .i64 B.y1, .slice ao n m], .agg #[.int .i64 D.x0, .int .i64 D.y0, .int .i64 D.x1, .int .i64 D.y1], .int .i64 (rx : Int), .int .i64 (ry : Int)] w fun e w' => RetB w.heap.size w' e (orN D) (img (orN D) (blurG (atX B f) rx ry)) ∧ Below w.heap.size w w' := by
  obtain ⟨E, hE⟩ : ∃ E, E = grow D 0 (ry : Int) 0 (ry : Int) := ⟨_, rfl⟩
  have HE : Hid (grow ⟨D.x0, D.y0, D.x1, D.y1⟩ 0 (ry : Int) 0 (ry : Int) = E) := hE.symm
  obtain ⟨g1, g2, g3, g4⟩ := growY (D := D) (ry := ry) hD hy
  have HG : Hid (orN E = E ∧ Ok E ∧ area E ≤ 5000 ∧ wid E * hei E ≤ 5000) := by
    rw [← hE] at g1 g2
    have h3 : area E ≤ 5000 := by rw [hE]; exact Int.le_trans (growY_area hD hx hy) ha
    refine ⟨g1, g2, h3, ?_⟩
    have := buf_new g2 h3
    rw [g1] at this
    exact this.2.1
  have HI : Hid (img (orN D) (colG (atX E (rowG (atX B f) rx)) ry) = img (orN D) (blurG (atX B f) rx ry)) := by rw [hE]; exact refbox_img hD hy _
  have HDA : Hid (area D ≤ 5000) := Int.le_trans (grow_area hD hx hy) ha
  have HC : Hid (((0 : Int) ≤ 0 ∧ (0 : Int) ≤ 4398046511104) ∧ ((0 : Int) ≤ (ry : Int) ∧ (ry : Int) ≤ 4398046511104)) := ⟨by omega, by omega⟩
  have HBY : Hid (∀ x y, byteX (rowG (atX B f) rx x y)) := fun x y => row_byte (fun a b => at_byte hb a b) rx x y
  have HH := hid (And.intro hV (And.intro hBo (And.intro hD.ok hb)))
  obtain ⟨W0, hW0⟩ : ∃ W0, W0 = ((w.alloc (.cells #[.int .i64 B.x0, .int .i64 B.y0, .int .i64 B.x1, .int .i64 B.y1, .slice ao n m] 26)).alloc (.cells #[.int .i64 D.x0, .int .i64 D.y0, .int .i64 D.x1, .int .i64 D.y1] 23)).alloc (.cells #[.int .i64 0, .int .i64 0, .int .i64 0, .int .i64 0, .slice none 0 0] 26) := ⟨_, rfl⟩
  have HA : Hid (Has5 W0 w.heap.size B ao n m ∧ Rc.Has4 W0 (w.heap.size + 1) (.int .i64 D.x0) (.int .i64 D.y0) (.int .i64 D.x1) (.int .i64 D.y1) ∧ Has5 W0 (w.heap.size + 1 + 1) ⟨0, 0, 0, 0⟩ none 0 0 ∧ Below w.heap.size w W0) := by
    subst hW0
    exact ⟨((Has5.new rfl _ _ _ _ _ _ _ _).alloc _).alloc _, (Rc.Has4.new (by simp) _ _ _ _ _).alloc _, Has5.new (by simp) _ _ _ _ _ _ _ _, (((Below.refl _ _).alloc (Nat.le_refl _) _).alloc (by simp) _).alloc (by simp; omega) _⟩
  clear hE g1 g2 g3 g4 hV hBo hb hD ha
  go_enter Try.func13, Try.ntmps13
  go_wp2
  rw [← hW0]
  clear hW0
  have hS : S9c w.heap.size (w.heap.size + 1) B D (.slice ao n m) W0 := ⟨HA.out.1.c0, HA.out.1.c1, HA.out.1.c2, HA.out.1.c3, HA.out.1.c4, HA.out.2.1.c0, HA.out.2.1.c1, HA.out.2.1.c2, HA.out.2.1.c3⟩
  go_region_held3 (fun w' => w'.cell? ⟨w.heap.size, 0, none⟩ = some (.int .i64 B.x0) ∧ w'.cell? ⟨w.heap.size, 1, none⟩ = some (.int .i64 B.y0) ∧ w'.cell? ⟨w.heap.size, 2, none⟩ = some (.int .i64 B.x1) ∧ w'.cell? ⟨w.heap.size, 3, none⟩ = some (.int .i64 B.y1) ∧ w'.cell? ⟨w.heap.size, 4, none⟩ = some (.slice ao n m) ∧ w'.cell? ⟨(w.heap.size + 1), 0, none⟩ = some (.int .i64 D.x0) ∧ w'.cell? ⟨(w.heap.size + 1), 1, none⟩ = some (.int .i64 D.y0) ∧ w'.cell? ⟨(w.heap.size + 1), 2, none⟩ = some (.int .i64 D.x1) ∧ w'.cell? ⟨(w.heap.size + 1), 3, none⟩ = some (.int .i64 D.y1)) (repeat (first | with_reducible assumption | with_reducible refine s9c_drew ?_ | with_reducible refine s9c_set5 ?_ (by omega) (by omega) | with_reducible refine s9c_below ?_ ‹_›))
    ((first
    | (go_at_call 29; with_reducible refine Calls.mono (Rc.refGrow_any D.x0 D.y0 D.x1 D.y1 0 (ry : Int) 0 (ry : Int) _ HH.out.2.2.1 HC.out.1 HC.out.2 HC.out.1 HC.out.2) ?_; rintro e w1 ⟨rfl, hb1⟩; rw [HE.out]; have HB1 := hid (Rc.via HA.out.2.2.2.drew hb1); have HZ1 := hid ((HA.out.2.2.1.below (Below.refl _ _).drew).below hb1))
    | (go_at_call 28; with_reducible refine Calls.mono (alongX_any B ao n m g off f E rx _ HH.out.2.1 hn (HH.out.1.below HB1.out) HH.out.2.2.2 HG.out.2.1 HG.out.2.2.1 hx) ?_; rintro e w2 ⟨hr, hb2⟩; rw [HG.out.1] at hr; obtain ⟨ro, rn, rm, rg, roff, rfl, hO, hg1, hg2, hln⟩ := retG hr; rw [img_len] at hln; have HLN := hid hln; have HO2 := hid hO; have HB2 := hid (Rc.via HB1.out hb2); have HZ2 := hid (HZ1.out.below hb2); clear hr hO hg1 hg2 hln)
    | (go_at_call 28; with_reducible refine Calls.mono (alongY_any E ro rn rm rg roff (rowG (atX B f) rx) D ry _ HG.out.2.1 (HLN.out ▸ HG.out.2.2.2) HO2.out.v HBY.out HH.out.2.2.1 HDA.out hy) ?_; rintro e w3 ⟨hr, hb3⟩; obtain ⟨to5, tn, tm, tg, toff, rfl, hO, hg1, hg2, hln⟩ := retG hr; have HO3 := hid (And.intro hO hg1); have HB3 := hid (Rc.via HB2.out hb3); have HZ3 := hid (HZ2.out.below hb3); have hz3 := HZ2.out.lt; clear hr hO hg1 hg2 hln; obtain ⟨z0, z1, z2, z3, z4, zf⟩ := HZ3.out)))
  go_wp2
  obtain ⟨s0, s1, s2, s3, s4⟩ := set5 z0 z1 z2 z3 z4 (.int .i64 (orN D).x0) (.int .i64 (orN D).y0) (.int .i64 (orN D).x1) (.int .i64 (orN D).y1) (.slice to5 tn tm)
  refine bodyPost_ret (v := .agg #[.int .i64 (orN D).x0, .int .i64 (orN D).y0, .int .i64 (orN D).x1, .int .i64 (orN D).y1, .slice to5 tn tm]) (by simp [results, Try.results13, go_sem, s0, s1, s2, s3, s4]) rfl ⟨⟨_, _, _, tg, toff, rfl, ?_⟩, ?_⟩
  · have hlo := HB2.out.size
    rw [← HI.out]
    exact (HO3.out.1.but (but_set5 _ _ _ _ _ _ _) (fun _ => by have := HO3.out.2; omega)).mono hlo
  · exact below_set5 HB3.out (by omega) _ _ _ _ _
end Go.Proofs.Ytbcgnnjkhgpkmaa
