/- Eroding what is dilated by the same is no less than it was, dilating what is eroded no more; no condition. -/
import Derived.Test.YtfkbdpbgeglgaaaRows
import Derived.WalkKit
import Derived.ProofKit
import Derived.OpenShut
import Derived.Test.YtfkbdpbgeglgaaaOpen
import Derived.Test.YtfkbdpbgeglgaaaKit
import Derived.Test.YtfkbdpbgeglgaaaGrown
import Derived.Test.YtfkbdpbgeglgaaaAround
import Derived.Test.YtfkbdpbgeglgaaaRBox
import Derived.Deep.RegionHeld3
import Derived.Deep.DeepCutAuto
namespace Go.Proofs.Ytfkbdpbgeglgaaa.morphCloses
open Go.ChangeShapes Go.WideShapes Go.ChangeAt Go.RowKit Num
set_option linter.unusedVariables false
set_option linter.unusedSimpArgs false
theorem ne_before {k lo g : Nat} (h : k < lo) (hg : lo ≤ g) : g ≠ k := by omega
theorem ne_behind {c g s : Nat} (h : 0 < c → g < s) : 0 < c → g ≠ s := fun hc => Nat.ne_of_lt (h hc)
abbrev S13 (kb kd ke : Nat) (B : R) (vb : Value) (D E : R) (w' : World) : Prop := (w'.cell? ⟨kb, 0, none⟩ = some (.int .i64 B.x0) ∧ w'.cell? ⟨kb, 1, none⟩ = some (.int .i64 B.y0) ∧ w'.cell? ⟨kb, 2, none⟩ = some (.int .i64 B.x1) ∧ w'.cell? ⟨kb, 3, none⟩ = some (.int .i64 B.y1) ∧ w'.cell? ⟨kb, 4, none⟩ = some (vb)) ∧ (w'.cell? ⟨kd, 0, none⟩ = some (.int .i64 D.x0) ∧ w'.cell? ⟨kd, 1, none⟩ = some (.int .i64 D.y0) ∧ w'.cell? ⟨kd, 2, none⟩ = some (.int .i64 D.x1) ∧ w'.cell? ⟨kd, 3, none⟩ = some (.int .i64 D.y1)) ∧ (w'.cell? ⟨ke, 0, none⟩ = some (.int .i64 E.x0) ∧ w'.cell? ⟨ke, 1, none⟩ = some (.int .i64 E.y0) ∧ w'.cell? ⟨ke, 2, none⟩ = some (.int .i64 E.x1) ∧ w'.cell? ⟨ke, 3, none⟩ = some (.int .i64 E.y1))
theorem s13_below {kb kd ke : Nat} {B : R} {vb : Value} {D E : R} {w1 w2 : World} (h : S13 kb kd ke B vb D E w1) (hb : Below w1.heap.size w1 w2) : S13 kb kd ke B vb D E w2 := by
  obtain ⟨⟨a0, a1, a2, a3, a4⟩, ⟨b0, b1, b2, b3⟩, c0, c1, c2, c3⟩ := h
  have e1 := fun o => World.cell?_of_block (a := ⟨kb, o, none⟩) (hb.block kb (World.block_lt_of_cell? w1 ⟨kb, 0, none⟩ a0))
  have e2 := fun o => World.cell?_of_block (a := ⟨kd, o, none⟩) (hb.block kd (World.block_lt_of_cell? w1 ⟨kd, 0, none⟩ b0))
  have e3 := fun o => World.cell?_of_block (a := ⟨ke, o, none⟩) (hb.block ke (World.block_lt_of_cell? w1 ⟨ke, 0, none⟩ c0))
  exact ⟨⟨by rw [e1]; exact a0, by rw [e1]; exact a1, by rw [e1]; exact a2, by rw [e1]; exact a3, by rw [e1]; exact a4⟩, ⟨by rw [e2]; exact b0, by rw [e2]; exact b1, by rw [e2]; exact b2, by rw [e2]; exact b3⟩, by rw [e3]; exact c0, by rw [e3]; exact c1, by rw [e3]; exact c2, by rw [e3]; exact c3⟩
theorem s13_drew {kb kd ke : Nat} {B : R} {vb : Value} {D E : R} {w1 : World} (h : S13 kb kd ke B vb D E w1) : S13 kb kd ke B vb D E w1.drew := s13_below h (Below.refl _ _).drew
theorem s13_alloc {kb kd ke : Nat} {B : R} {vb : Value} {D E : R} {w1 : World} {o : Obj} (h : S13 kb kd ke B vb D E w1) : S13 kb kd ke B vb D E (w1.alloc o) := s13_below h ((Below.refl _ _).alloc (Nat.le_refl _) _)
theorem s13_set5 {kb kd ke j : Nat} {B : R} {vb : Value} {D E : R} {w1 : World} {v0 v1 v2 v3 v4 : Value} (h : S13 kb kd ke B vb D E w1) (h1 : kb ≠ j) (h2 : kd ≠ j) (h3 : ke ≠ j) : S13 kb kd ke B vb D E (((((w1.setCell ⟨j, 0, none⟩ v0).setCell ⟨j, 1, none⟩ v1).setCell ⟨j, 2, none⟩ v2).setCell ⟨j, 3, none⟩ v3).setCell ⟨j, 4, none⟩ v4) := by
  have hb := but_set5 w1 j v0 v1 v2 v3 v4
  obtain ⟨⟨a0, a1, a2, a3, a4⟩, ⟨b0, b1, b2, b3⟩, c0, c1, c2, c3⟩ := h
  have e1 := fun o => World.cell?_of_block (a := ⟨kb, o, none⟩) (hb.block kb (World.block_lt_of_cell? w1 ⟨kb, 0, none⟩ a0) h1)
  have e2 := fun o => World.cell?_of_block (a := ⟨kd, o, none⟩) (hb.block kd (World.block_lt_of_cell? w1 ⟨kd, 0, none⟩ b0) h2)
  have e3 := fun o => World.cell?_of_block (a := ⟨ke, o, none⟩) (hb.block ke (World.block_lt_of_cell? w1 ⟨ke, 0, none⟩ c0) h3)
  exact ⟨⟨by rw [e1]; exact a0, by rw [e1]; exact a1, by rw [e1]; exact a2, by rw [e1]; exact a3, by rw [e1]; exact a4⟩, ⟨by rw [e2]; exact b0, by rw [e2]; exact b1, by rw [e2]; exact b2, by rw [e2]; exact b3⟩, by rw [e3]; exact c0, by rw [e3]; exact c1, by rw [e3]; exact c2, by rw [e3]; exact c3⟩

theorem mor1_close (U : Int → Int → Int) (a b : Nat) (x y : Int) : U x y ≤ mor1 true (fun u v => mor1 false U a b u v) a b x y := by
  obtain ⟨⟨u, v, a1, a2, a3, a4, a5⟩, -⟩ := mor_of true (fun u v => mor1 false U a b u v) a b x y
  rw [← a5]
  have h : leT false (U x y) (mor1 false U a b u v) := (mor_of false U a b u v).2 x y (by omega) (by omega) (by omega) (by omega)
  exact h
theorem mor1_open (U : Int → Int → Int) (a b : Nat) (x y : Int) : mor1 false (fun u v => mor1 true U a b u v) a b x y ≤ U x y := by
  obtain ⟨⟨u, v, a1, a2, a3, a4, a5⟩, -⟩ := mor_of false (fun u v => mor1 true U a b u v) a b x y
  rw [← a5]
  have h : leT true (U x y) (mor1 true U a b u v) := (mor_of true U a b u v).2 x y (by omega) (by omega) (by omega) (by omega)
  exact h
theorem two_img {t s : Bool} {D E : R} {kx ky : Nat} (hG : Gw D E kx ky) (g : Int → Int → X) (rx ry : Nat) : img (orN D) (morX t (atX E (morX s g rx ry)) kx ky) = img (orN D) (morX t (morX s g rx ry) kx ky) := by
  apply img_ext
  intro x y hb
  rw [has_orN] at hb
  exact mor_in hG _ hb
theorem close_at {D : R} {g : Int → Int → X} {a b i : Nat} (hi : i < 4) {x y : Int} (hb : hasB D x y = true) : chn i (g x y) ≤ chn i (atX (orN D) (morX true (morX false g a b) a b) x y) ∧ chn i (atX (orN D) (morX false (morX true g a b) a b) x y) ≤ chn i (g x y) := by
  unfold atX
  rw [has_orN, if_pos hb, if_pos hb, ← chn_mor true (morX false g a b) a b x y hi, ← chn_mor false (morX true g a b) a b x y hi]
  have e1 : (fun u v => chn i (morX false g a b u v)) = fun u v => mor1 false (fun p q => chn i (g p q)) a b u v := by
    funext u v
    exact (chn_mor false g a b u v hi).symm
  have e2 : (fun u v => chn i (morX true g a b u v)) = fun u v => mor1 true (fun p q => chn i (g p q)) a b u v := by
    funext u v
    exact (chn_mor true g a b u v hi).symm
  rw [e1, e2]
  exact ⟨mor1_close (fun p q => chn i (g p q)) a b x y, mor1_open (fun p q => chn i (g p q)) a b x y⟩
/-- the two buffers that were made -/
structure Cl (W : World) (B D : R) (ao : Option Addr) (n m : Nat) (k10 k11 : Nat) (Z : R) (co : Option Addr) (cn cm cg coff : Nat) (G1 : Int → Int → X) (do5 : Option Addr) (dn dm dg doff : Nat) (G2 : Int → Int → X) (w : World) : Prop where
  x : Kx W B D ao n m w
  c : Has5 w k10 Z co cn cm
  d : Has5 w k11 Z do5 dn dm
  vc : Vx w co cn cm cg coff (img Z G1)
  vd : Vx w do5 dn dm dg doff (img Z G2)
theorem Cl.below {W : World} {B D : R} {ao : Option Addr} {n m : Nat} {k10 k11 : Nat} {Z : R} {co : Option Addr} {cn cm cg coff : Nat} {G1 : Int → Int → X} {do5 : Option Addr} {dn dm dg doff : Nat} {G2 : Int → Int → X} {w w' : World} (h : Cl W B D ao n m k10 k11 Z co cn cm cg coff G1 do5 dn dm dg doff G2 w) (hb : Below w.heap.size w w') : Cl W B D ao n m k10 k11 Z co cn cm cg coff G1 do5 dn dm dg doff G2 w' :=
  ⟨h.x.below hb, h.c.below hb, h.d.below hb, h.vc.below hb, h.vd.below hb⟩
abbrev S11 (kc kd kp i : Nat) (Z : R) (vc vd vp : Value) (w' : World) : Prop := (w'.cell? ⟨kc, 0, none⟩ = some (.int .i64 Z.x0) ∧ w'.cell? ⟨kc, 1, none⟩ = some (.int .i64 Z.y0) ∧ w'.cell? ⟨kc, 2, none⟩ = some (.int .i64 Z.x1) ∧ w'.cell? ⟨kc, 3, none⟩ = some (.int .i64 Z.y1) ∧ w'.cell? ⟨kc, 4, none⟩ = some (vc)) ∧ (w'.cell? ⟨kd, 0, none⟩ = some (.int .i64 Z.x0) ∧ w'.cell? ⟨kd, 1, none⟩ = some (.int .i64 Z.y0) ∧ w'.cell? ⟨kd, 2, none⟩ = some (.int .i64 Z.x1) ∧ w'.cell? ⟨kd, 3, none⟩ = some (.int .i64 Z.y1) ∧ w'.cell? ⟨kd, 4, none⟩ = some (vd)) ∧ w'.cell? ⟨kp, i, none⟩ = some (vp)
theorem s11_below {kc kd kp i : Nat} {Z : R} {vc vd vp : Value} {w1 w2 : World} (h : S11 kc kd kp i Z vc vd vp w1) (hb : Below w1.heap.size w1 w2) : S11 kc kd kp i Z vc vd vp w2 := by
  obtain ⟨⟨a0, a1, a2, a3, a4⟩, ⟨b0, b1, b2, b3, b4⟩, c0⟩ := h
  have e1 := fun o => World.cell?_of_block (a := ⟨kc, o, none⟩) (hb.block kc (World.block_lt_of_cell? w1 ⟨kc, 0, none⟩ a0))
  have e2 := fun o => World.cell?_of_block (a := ⟨kd, o, none⟩) (hb.block kd (World.block_lt_of_cell? w1 ⟨kd, 0, none⟩ b0))
  have e3 := fun o => World.cell?_of_block (a := ⟨kp, o, none⟩) (hb.block kp (World.block_lt_of_cell? w1 ⟨kp, i, none⟩ c0))
  exact ⟨⟨by rw [e1]; exact a0, by rw [e1]; exact a1, by rw [e1]; exact a2, by rw [e1]; exact a3, by rw [e1]; exact a4⟩, ⟨by rw [e2]; exact b0, by rw [e2]; exact b1, by rw [e2]; exact b2, by rw [e2]; exact b3, by rw [e2]; exact b4⟩, by rw [e3]; exact c0⟩
theorem s11_drew {kc kd kp i : Nat} {Z : R} {vc vd vp : Value} {w1 : World} (h : S11 kc kd kp i Z vc vd vp w1) : S11 kc kd kp i Z vc vd vp w1.drew := s11_below h (Below.refl _ _).drew

set_option maxRecDepth 100000 in
set_option maxHeartbeats 4000000 in
theorem walk (B : R) (ao : Option Addr) (n m g off : Nat) (l : List X) (D : R) (rx ry : Int) (W : World) (h : Vx W ao n m g off l) (hp : ∀ p, p ∈ l → byteX p) :
    Calls Try.prog 6 #[.agg #[.int .i64 B.x0, .int .i64 B.y0, .int .i64 B.x1, .int .i64 B.y1, .slice ao n m], .agg #[.int .i64 D.x0, .int .i64 D.y0, .int .i64 D.x1, .int .i64 D.y1], .int .i64 rx, .int .i64 ry] W fun e w' => e = .returned (.bool true) ∧ Below W.heap.size W w' := by
  have hn := vx_small h
  have HX : Hid (Kx W B D ao n m ((W.alloc (.cells #[.int .i64 B.x0, .int .i64 B.y0, .int .i64 B.x1, .int .i64 B.y1, .slice ao n m] 26)).alloc (.cells #[.int .i64 D.x0, .int .i64 D.y0, .int .i64 D.x1, .int .i64 D.y1] 23))) := kx_new W B D ao n m
  obtain ⟨b0, b1, b2, b3, b4, bf⟩ := HX.out.b
  obtain ⟨r0, r1, r2, r3, rf⟩ := HX.out.d
  rcases hF : fineQ B n D rx ry with _ | _
  · have HR := hid hF
    clear hF h hp
    go_enter Try.func6, Try.ntmps6
    go_wp2_with (first | (go_at_call 9; with_reducible refine Calls.mono (awake_any _) ?_; rintro e wc ⟨rfl, hb⟩; replace HX := hid (HX.out.below hb); clear hb; clear b0 b1 b2 b3 b4 bf r0 r1 r2 r3 rf; obtain ⟨b0, b1, b2, b3, b4, bf⟩ := HX.out.b; obtain ⟨r0, r1, r2, r3, rf⟩ := HX.out.d) | (go_at_call 10; with_reducible refine Calls.mono (fine_any B ao n m D rx ry _ hn) ?_; rintro e wc ⟨rfl, hb⟩; rw [HR.out]; replace HX := hid (HX.out.below hb); clear hb; clear b0 b1 b2 b3 b4 bf r0 r1 r2 r3 rf; obtain ⟨b0, b1, b2, b3, b4, bf⟩ := HX.out.b; obtain ⟨r0, r1, r2, r3, rf⟩ := HX.out.d))
    go_ret
    exact ⟨rfl, HX.out.low⟩
  obtain ⟨a, b, hG⟩ := good8 hF
  have hU := bu_of h hp hG
  have hrx := hG.hrx
  have hry := hG.hry
  have HR := hid hF
  clear hF hp
  subst hrx
  subst hry
  obtain ⟨f, hf⟩ : ∃ f, f = unimg B l := ⟨_, rfl⟩
  have e1 := hU.im
  rw [← hf] at e1
  have HU : Hid (n ≤ 5000 ∧ bufB B n = true ∧ (∀ x y, byteX (f x y)) ∧ Ok B ∧ Half D ∧ area (grow D (a : Int) (b : Int) (a : Int) (b : Int)) ≤ 5000 ∧ a ≤ 255 ∧ b ≤ 255 ∧ area D ≤ 5000) := ⟨hU.n5, hU.buf, by rw [hf]; exact hU.byt, hU.ok, hU.half, hU.few, hU.a, hU.b, Int.le_trans (grow_area hU.half hU.a hU.b) hU.few⟩
  obtain ⟨hnear, hfew, -, -⟩ := near_of HR.out
  have ha8 : a ≤ 8 := hG.ha
  have hb8 : b ≤ 8 := hG.hb
  obtain ⟨E, hE⟩ : ∃ E, E = grow D (a : Int) (b : Int) (a : Int) (b : Int) := ⟨_, rfl⟩
  have hGw : Gw D E a b := by rw [hE]; exact grow_of hnear (by omega) (by omega)
  have hEa : area (grow E (a : Int) (b : Int) (a : Int) (b : Int)) ≤ 5000 := area_twice hnear (by omega) (by omega) hfew hE
  have hE5 : area E ≤ 5000 := Int.le_trans (grow_area hGw.half (by omega) (by omega)) hEa
  have hbuf := buf_new hGw.half.ok hE5
  rw [hGw.orn] at hbuf
  have HE : Hid (Half E ∧ area (grow E (a : Int) (b : Int) (a : Int) (b : Int)) ≤ 5000 ∧ orN E = E ∧ bufB E (wid E * hei E) = true ∧ wid E * hei E ≤ 5000 ∧ area (grow D (a : Int) (b : Int) (a : Int) (b : Int)) ≤ 5000) := ⟨hGw.half, hEa, hGw.orn, hbuf.1, hbuf.2.1, by rw [← hE]; exact hE5⟩
  have HI1 := hid (two_img (t := true) (s := false) hGw (atX B f) a b)
  have HI2 := hid (two_img (t := false) (s := true) hGw (atX B f) a b)
  have HBY1 : Hid (∀ x y, byteX (morX false (atX B f) a b x y)) := fun x y => mor_byte (fun u v => at_byte HU.out.2.2.1 u v) false a b x y
  have HBY2 : Hid (∀ x y, byteX (morX true (atX B f) a b x y)) := fun x y => mor_byte (fun u v => at_byte HU.out.2.2.1 u v) true a b x y
  have HCL : Hid (∀ i x y, i < 4 → hasB D x y = true → chn i (atX B f x y) ≤ chn i (atX (orN D) (morX true (morX false (atX B f) a b) a b) x y) ∧ chn i (atX (orN D) (morX false (morX true (atX B f) a b) a b) x y) ≤ chn i (atX B f x y)) := fun i x y hi hb => close_at hi hb
  subst e1
  have HV := hid h
  have HEE : Hid (grow ⟨D.x0, D.y0, D.x1, D.y1⟩ (a : Int) (b : Int) (a : Int) (b : Int) = E) := hE.symm
  have HC : Hid (Ok ⟨D.x0, D.y0, D.x1, D.y1⟩ ∧ ((0 : Int) ≤ (a : Int) ∧ (a : Int) ≤ 4398046511104) ∧ ((0 : Int) ≤ (b : Int) ∧ (b : Int) ≤ 4398046511104)) := ⟨hU.half.ok, by omega, by omega⟩
  have hZ5 := buf_new hU.half.ok HU.out.2.2.2.2.2.2.2.2
  have hHD := hnear
  unfold Near at hHD
  obtain ⟨⟨i0, i1⟩, ⟨i2, i3⟩, ⟨i4, i5⟩, i6, i7⟩ := hHD
  obtain ⟨Z, hZ⟩ : ∃ Z, Z = orN D := ⟨_, rfl⟩
  rw [← hZ] at hZ5
  have HZ := hid hZ.symm
  have HZO : Hid (Ok Z ∧ wid Z * hei Z ≤ 5000) := ⟨by rw [hZ]; exact ok_orN hU.half.ok, hZ5.2.1⟩
  have ha2 : a ≤ 255 := by omega
  have hb2 : b ≤ 255 := by omega
  rw [← hZ] at HCL
  clear hU hG h hf hZ hE hGw hEa hE5 hbuf hnear hfew hZ5
  go_enter Try.func6, Try.ntmps6
  go_wp2_with (first
    | (go_at_call 9; with_reducible refine Calls.mono (awake_any _) ?_; rintro e wc ⟨rfl, hb⟩; replace HX := hid (HX.out.below hb); clear hb; clear b0 b1 b2 b3 b4 bf r0 r1 r2 r3 rf; obtain ⟨b0, b1, b2, b3, b4, bf⟩ := HX.out.b; obtain ⟨r0, r1, r2, r3, rf⟩ := HX.out.d)
    | (go_at_call 10; with_reducible refine Calls.mono (fine_any B ao n m D (a : Int) (b : Int) _ hn) ?_; rintro e wc ⟨rfl, hb⟩; rw [HR.out]; replace HX := hid (HX.out.below hb); clear hb; clear b0 b1 b2 b3 b4 bf r0 r1 r2 r3 rf; obtain ⟨b0, b1, b2, b3, b4, bf⟩ := HX.out.b; obtain ⟨r0, r1, r2, r3, rf⟩ := HX.out.d)
    | (go_at_call 18; with_reducible refine Calls.mono (Rc.refGrow_any D.x0 D.y0 D.x1 D.y1 (a : Int) (b : Int) (a : Int) (b : Int) _ HC.out.1 HC.out.2.1 HC.out.2.2 HC.out.2.1 HC.out.2.2) ?_; rintro e w1 ⟨rfl, hb1⟩; rw [HEE.out]; have HX1 := hid (HX.out.below hb1); clear hb1 b0 b1 b2 b3 b4 bf r0 r1 r2 r3 rf))
  have HX6 := hid (HX1.out.below ((Below.refl w1.heap.size w1).alloc (Nat.le_refl _) (.cells #[.int .i64 E.x0, .int .i64 E.y0, .int .i64 E.x1, .int .i64 E.y1] 23)))
  have HE4 := hid (Rc.Has4.new (W := w1) (k := w1.heap.size) rfl (.int .i64 E.x0) (.int .i64 E.y0) (.int .i64 E.x1) (.int .i64 E.y1) 23)
  clear HX HX1
  generalize w1.alloc (.cells #[.int .i64 E.x0, .int .i64 E.y0, .int .i64 E.x1, .int .i64 E.y1] 23) = W6 at HX6 HE4 ⊢
  generalize w1.heap.size = k9 at HE4 ⊢
  have hS : S13 W.heap.size (W.heap.size + 1) k9 B (.slice ao n m) D E W6 := ⟨⟨HX6.out.b.c0, HX6.out.b.c1, HX6.out.b.c2, HX6.out.b.c3, HX6.out.b.c4⟩, ⟨HX6.out.d.c0, HX6.out.d.c1, HX6.out.d.c2, HX6.out.d.c3⟩, HE4.out.c0, HE4.out.c1, HE4.out.c2, HE4.out.c3⟩
  have hb6 : W.heap.size < W6.heap.size := HX6.out.b.lt
  have hd6 : W.heap.size + 1 < W6.heap.size := HX6.out.d.lt
  have he6 : k9 < W6.heap.size := HE4.out.lt
  go_cut [10] (fun vv wx => ∃ k10 co cn cm cg coff, vv = .pointer (some ⟨k10, 0, none⟩) ∧ W6.heap.size ≤ k10 ∧ Has5 wx k10 Z co cn cm ∧ Vx wx co cn cm cg coff (img Z (morX true (morX false (atX B f) a b) a b)) ∧ cn = wid Z * hei Z ∧ Below W6.heap.size W6 wx)
  case first =>
    go_region_held3 (fun w' => (w'.cell? ⟨W.heap.size, 0, none⟩ = some (.int .i64 B.x0) ∧ w'.cell? ⟨W.heap.size, 1, none⟩ = some (.int .i64 B.y0) ∧ w'.cell? ⟨W.heap.size, 2, none⟩ = some (.int .i64 B.x1) ∧ w'.cell? ⟨W.heap.size, 3, none⟩ = some (.int .i64 B.y1) ∧ w'.cell? ⟨W.heap.size, 4, none⟩ = some (.slice ao n m)) ∧ (w'.cell? ⟨(W.heap.size + 1), 0, none⟩ = some (.int .i64 D.x0) ∧ w'.cell? ⟨(W.heap.size + 1), 1, none⟩ = some (.int .i64 D.y0) ∧ w'.cell? ⟨(W.heap.size + 1), 2, none⟩ = some (.int .i64 D.x1) ∧ w'.cell? ⟨(W.heap.size + 1), 3, none⟩ = some (.int .i64 D.y1)) ∧ (w'.cell? ⟨k9, 0, none⟩ = some (.int .i64 E.x0) ∧ w'.cell? ⟨k9, 1, none⟩ = some (.int .i64 E.y0) ∧ w'.cell? ⟨k9, 2, none⟩ = some (.int .i64 E.x1) ∧ w'.cell? ⟨k9, 3, none⟩ = some (.int .i64 E.y1))) (repeat (first | with_reducible assumption | with_reducible refine s13_drew ?_ | with_reducible refine s13_alloc ?_ | with_reducible refine s13_set5 ?_ (by omega) (by omega) (by omega) | with_reducible refine s13_below ?_ ‹_›))
      ((first
        | (go_at_call 14; with_reducible refine Calls.mono (most_any B ao n m g off f E a b _ HU.out.2.1 HU.out.1 (HV.out.below (Rc.via HX6.out.low ((Below.refl W6.heap.size W6).alloc (Nat.le_refl _) (.cells #[.int .i64 0, .int .i64 0, .int .i64 0, .int .i64 0, .slice none 0 0] 26)).drew)) HU.out.2.2.1 HE.out.1 HE.out.2.1 ha2 hb2) ?_; rintro e w2 ⟨hr, hb2'⟩; rw [HE.out.2.2.1] at hr; obtain ⟨eo, en, em, eg, eoff, rfl, hO, hg1, hg2, hln⟩ := retG hr; have hen : en = wid E * hei E := (by rw [img_len] at hln; exact hln.symm); have HEN := hid hen; clear hen; have HO2 := hid hO.v; have HB2 := hid (Rc.via ((Below.refl W6.heap.size W6).alloc (Nat.le_refl _) (.cells #[.int .i64 0, .int .i64 0, .int .i64 0, .int .i64 0, .slice none 0 0] 26)).drew hb2'); have HZ2 := hid (((Has5.new (W := W6) (k := W6.heap.size) rfl 0 0 0 0 none 0 0 26).below (Below.refl _ _).drew).below hb2'); clear hr hO hg1 hg2 hln)
        | (go_at_call 14; with_reducible refine Calls.mono (most_any B ao n m g off f E a b _ HU.out.2.1 HU.out.1 (HV.out.below (Rc.via HX6.out.low ((Below.refl W6.heap.size W6).drew))) HU.out.2.2.1 HE.out.1 HE.out.2.1 ha2 hb2) ?_; rintro e w2 ⟨hr, hb2'⟩; rw [HE.out.2.2.1] at hr; obtain ⟨eo, en, em, eg, eoff, rfl, hO, hg1, hg2, hln⟩ := retG hr; have hen : en = wid E * hei E := (by rw [img_len] at hln; exact hln.symm); have HEN := hid hen; clear hen; have HO2 := hid hO.v; have HB2 := hid (Rc.via ((Below.refl W6.heap.size W6).drew) hb2'); clear hr hO hg1 hg2 hln)
        | (go_at_call 12; with_reducible refine Calls.mono (least_any E eo en em eg eoff (morX false (atX B f) a b) D a b _ (by rw [HEN.out]; exact HE.out.2.2.2.1) (by rw [HEN.out]; exact HE.out.2.2.2.2.1) HO2.out HBY1.out HU.out.2.2.2.2.1 HE.out.2.2.2.2.2 ha2 hb2) ?_; rintro e w3 ⟨hr, hb3⟩; rw [HI1.out, HZ.out] at hr; obtain ⟨co, cn, cm, cg, coff, rfl, hO, hg1, hg2, hln⟩ := retG hr; have hcn : cn = wid Z * hei Z := (by rw [img_len] at hln; exact hln.symm); have HCN := hid hcn; clear hcn; have HZ3 := hid (HZ2.out.below hb3); have HB3 := hid (Rc.via HB2.out hb3); have HO3 := hid (And.intro hO (And.intro hg1 (And.intro hg2 (ne_before HZ2.out.lt hg1)))); have hz3 := HB3.out.size; obtain ⟨p0, p1, p2, p3, p4, pf⟩ := HZ3.out; clear hr hO hg1 hg2 hln)
        | (go_at_call 12; with_reducible refine Calls.mono (least_any E eo en em eg eoff (morX false (atX B f) a b) D a b _ (by rw [HEN.out]; exact HE.out.2.2.2.1) (by rw [HEN.out]; exact HE.out.2.2.2.2.1) (HO2.out.below ((Below.refl w2.heap.size w2).alloc (Nat.le_refl _) (.cells #[.int .i64 0, .int .i64 0, .int .i64 0, .int .i64 0, .slice none 0 0] 26))) HBY1.out HU.out.2.2.2.2.1 HE.out.2.2.2.2.2 ha2 hb2) ?_; rintro e w3 ⟨hr, hb3⟩; rw [HI1.out, HZ.out] at hr; obtain ⟨co, cn, cm, cg, coff, rfl, hO, hg1, hg2, hln⟩ := retG hr; have hcn : cn = wid Z * hei Z := (by rw [img_len] at hln; exact hln.symm); have HCN := hid hcn; clear hcn; have HZ3 := hid ((Has5.new (W := w2) (k := w2.heap.size) rfl 0 0 0 0 none 0 0 26).below hb3); have HB3 := hid (Rc.via (HB2.out.alloc HB2.out.size (.cells #[.int .i64 0, .int .i64 0, .int .i64 0, .int .i64 0, .slice none 0 0] 26)) hb3); have HO3 := hid (And.intro hO (And.intro hg1 (And.intro hg2 (ne_before (lt_alloc w2 (.cells #[.int .i64 0, .int .i64 0, .int .i64 0, .int .i64 0, .slice none 0 0] 26)) hg1)))); have hz3 := HB3.out.size; have hz2 := HB2.out.size; obtain ⟨p0, p1, p2, p3, p4, pf⟩ := HZ3.out; clear hr hO hg1 hg2 hln)
        | (go_at_call 12; with_reducible refine Calls.mono (least_any E eo en em eg eoff (morX false (atX B f) a b) D a b _ (by rw [HEN.out]; exact HE.out.2.2.2.1) (by rw [HEN.out]; exact HE.out.2.2.2.2.1) HO2.out HBY1.out HU.out.2.2.2.2.1 HE.out.2.2.2.2.2 ha2 hb2) ?_; rintro e w3 ⟨hr, hb3⟩; rw [HI1.out, HZ.out] at hr; obtain ⟨co, cn, cm, cg, coff, rfl, hO, hg1, hg2, hln⟩ := retG hr; have hcn : cn = wid Z * hei Z := (by rw [img_len] at hln; exact hln.symm); have HCN := hid hcn; clear hcn; have HB3 := hid (Rc.via HB2.out hb3); have HO3 := hid (And.intro hO (And.intro hg1 (And.intro hg2 (ne_behind hg2)))); have hz3 := HB3.out.size; clear hr hO hg1 hg2 hln)))
    all_goals
      go_wp2_with fail
      go_meet
    all_goals first
      | exact ⟨_, co, cn, cm, cg, coff, rfl, (by omega), has5_set HZ3.out Z.x0 Z.y0 Z.x1 Z.y1 co cn cm, (HO3.out.1.but (but_set5 _ _ _ _ _ _ _) (fun _ => HO3.out.2.2.2)).v, HCN.out, below_set5 HB3.out (by omega) _ _ _ _ _⟩
      | exact ⟨w3.heap.size, co, cn, cm, cg, coff, rfl, hz3, Has5.new rfl Z.x0 Z.y0 Z.x1 Z.y1 co cn cm 26, (HO3.out.1.below ((Below.refl _ _).alloc (Nat.le_refl _) _)).v, HCN.out, HB3.out.alloc hz3 _⟩
  case rest =>
    obtain ⟨k10, co, cn, cm, cg, coff, rfl, hk10, hC5, hCV, hcn, hCB⟩ := hcut
    obtain ⟨W7, rfl⟩ : ∃ W7, W7 = wc := ⟨_, rfl⟩
    have HX7 := hid (HX6.out.below hCB)
    have HE7 := hid (HE4.out.below hCB)
    have HC7 := hid (And.intro hC5 hCV)
    have HCN := hid hcn
    clear hcn hS hC5 hCV hCB HX6 HE4 hb6 hd6 he6 hk10
    go_wp2
    have hS : S13 W.heap.size (W.heap.size + 1) k9 B (.slice ao n m) D E W7 := ⟨⟨HX7.out.b.c0, HX7.out.b.c1, HX7.out.b.c2, HX7.out.b.c3, HX7.out.b.c4⟩, ⟨HX7.out.d.c0, HX7.out.d.c1, HX7.out.d.c2, HX7.out.d.c3⟩, HE7.out.c0, HE7.out.c1, HE7.out.c2, HE7.out.c3⟩
    have hb6 : W.heap.size < W7.heap.size := HX7.out.b.lt
    have hd6 : W.heap.size + 1 < W7.heap.size := HX7.out.d.lt
    have he6 : k9 < W7.heap.size := HE7.out.lt
    go_cut [11] (fun vv wx => ∃ k11 co cn cm cg coff, vv = .pointer (some ⟨k11, 0, none⟩) ∧ W7.heap.size ≤ k11 ∧ Has5 wx k11 Z co cn cm ∧ Vx wx co cn cm cg coff (img Z (morX false (morX true (atX B f) a b) a b)) ∧ cn = wid Z * hei Z ∧ Below W7.heap.size W7 wx)
    case first =>
      go_region_held3 (fun w' => (w'.cell? ⟨W.heap.size, 0, none⟩ = some (.int .i64 B.x0) ∧ w'.cell? ⟨W.heap.size, 1, none⟩ = some (.int .i64 B.y0) ∧ w'.cell? ⟨W.heap.size, 2, none⟩ = some (.int .i64 B.x1) ∧ w'.cell? ⟨W.heap.size, 3, none⟩ = some (.int .i64 B.y1) ∧ w'.cell? ⟨W.heap.size, 4, none⟩ = some (.slice ao n m)) ∧ (w'.cell? ⟨(W.heap.size + 1), 0, none⟩ = some (.int .i64 D.x0) ∧ w'.cell? ⟨(W.heap.size + 1), 1, none⟩ = some (.int .i64 D.y0) ∧ w'.cell? ⟨(W.heap.size + 1), 2, none⟩ = some (.int .i64 D.x1) ∧ w'.cell? ⟨(W.heap.size + 1), 3, none⟩ = some (.int .i64 D.y1)) ∧ (w'.cell? ⟨k9, 0, none⟩ = some (.int .i64 E.x0) ∧ w'.cell? ⟨k9, 1, none⟩ = some (.int .i64 E.y0) ∧ w'.cell? ⟨k9, 2, none⟩ = some (.int .i64 E.x1) ∧ w'.cell? ⟨k9, 3, none⟩ = some (.int .i64 E.y1))) (repeat (first | with_reducible assumption | with_reducible refine s13_drew ?_ | with_reducible refine s13_alloc ?_ | with_reducible refine s13_set5 ?_ (by omega) (by omega) (by omega) | with_reducible refine s13_below ?_ ‹_›))
        ((first
          | (go_at_call 12; with_reducible refine Calls.mono (least_any B ao n m g off f E a b _ HU.out.2.1 HU.out.1 (HV.out.below (Rc.via HX7.out.low ((Below.refl W7.heap.size W7).alloc (Nat.le_refl _) (.cells #[.int .i64 0, .int .i64 0, .int .i64 0, .int .i64 0, .slice none 0 0] 26)).drew)) HU.out.2.2.1 HE.out.1 HE.out.2.1 ha2 hb2) ?_; rintro e w2 ⟨hr, hb2'⟩; rw [HE.out.2.2.1] at hr; obtain ⟨eo, en, em, eg, eoff, rfl, hO, hg1, hg2, hln⟩ := retG hr; have hen : en = wid E * hei E := (by rw [img_len] at hln; exact hln.symm); have HEN := hid hen; clear hen; have HO2 := hid hO.v; have HB2 := hid (Rc.via ((Below.refl W7.heap.size W7).alloc (Nat.le_refl _) (.cells #[.int .i64 0, .int .i64 0, .int .i64 0, .int .i64 0, .slice none 0 0] 26)).drew hb2'); have HZ2 := hid (((Has5.new (W := W7) (k := W7.heap.size) rfl 0 0 0 0 none 0 0 26).below (Below.refl _ _).drew).below hb2'); clear hr hO hg1 hg2 hln)
          | (go_at_call 12; with_reducible refine Calls.mono (least_any B ao n m g off f E a b _ HU.out.2.1 HU.out.1 (HV.out.below (Rc.via HX7.out.low ((Below.refl W7.heap.size W7).drew))) HU.out.2.2.1 HE.out.1 HE.out.2.1 ha2 hb2) ?_; rintro e w2 ⟨hr, hb2'⟩; rw [HE.out.2.2.1] at hr; obtain ⟨eo, en, em, eg, eoff, rfl, hO, hg1, hg2, hln⟩ := retG hr; have hen : en = wid E * hei E := (by rw [img_len] at hln; exact hln.symm); have HEN := hid hen; clear hen; have HO2 := hid hO.v; have HB2 := hid (Rc.via ((Below.refl W7.heap.size W7).drew) hb2'); clear hr hO hg1 hg2 hln)
          | (go_at_call 14; with_reducible refine Calls.mono (most_any E eo en em eg eoff (morX true (atX B f) a b) D a b _ (by rw [HEN.out]; exact HE.out.2.2.2.1) (by rw [HEN.out]; exact HE.out.2.2.2.2.1) HO2.out HBY2.out HU.out.2.2.2.2.1 HE.out.2.2.2.2.2 ha2 hb2) ?_; rintro e w3 ⟨hr, hb3⟩; rw [HI2.out, HZ.out] at hr; obtain ⟨co, cn, cm, cg, coff, rfl, hO, hg1, hg2, hln⟩ := retG hr; have hcn : cn = wid Z * hei Z := (by rw [img_len] at hln; exact hln.symm); have HCN := hid hcn; clear hcn; have HZ3 := hid (HZ2.out.below hb3); have HB3 := hid (Rc.via HB2.out hb3); have HO3 := hid (And.intro hO (And.intro hg1 (And.intro hg2 (ne_before HZ2.out.lt hg1)))); have hz3 := HB3.out.size; obtain ⟨p0, p1, p2, p3, p4, pf⟩ := HZ3.out; clear hr hO hg1 hg2 hln)
          | (go_at_call 14; with_reducible refine Calls.mono (most_any E eo en em eg eoff (morX true (atX B f) a b) D a b _ (by rw [HEN.out]; exact HE.out.2.2.2.1) (by rw [HEN.out]; exact HE.out.2.2.2.2.1) (HO2.out.below ((Below.refl w2.heap.size w2).alloc (Nat.le_refl _) (.cells #[.int .i64 0, .int .i64 0, .int .i64 0, .int .i64 0, .slice none 0 0] 26))) HBY2.out HU.out.2.2.2.2.1 HE.out.2.2.2.2.2 ha2 hb2) ?_; rintro e w3 ⟨hr, hb3⟩; rw [HI2.out, HZ.out] at hr; obtain ⟨co, cn, cm, cg, coff, rfl, hO, hg1, hg2, hln⟩ := retG hr; have hcn : cn = wid Z * hei Z := (by rw [img_len] at hln; exact hln.symm); have HCN := hid hcn; clear hcn; have HZ3 := hid ((Has5.new (W := w2) (k := w2.heap.size) rfl 0 0 0 0 none 0 0 26).below hb3); have HB3 := hid (Rc.via (HB2.out.alloc HB2.out.size (.cells #[.int .i64 0, .int .i64 0, .int .i64 0, .int .i64 0, .slice none 0 0] 26)) hb3); have HO3 := hid (And.intro hO (And.intro hg1 (And.intro hg2 (ne_before (lt_alloc w2 (.cells #[.int .i64 0, .int .i64 0, .int .i64 0, .int .i64 0, .slice none 0 0] 26)) hg1)))); have hz3 := HB3.out.size; have hz2 := HB2.out.size; obtain ⟨p0, p1, p2, p3, p4, pf⟩ := HZ3.out; clear hr hO hg1 hg2 hln)
          | (go_at_call 14; with_reducible refine Calls.mono (most_any E eo en em eg eoff (morX true (atX B f) a b) D a b _ (by rw [HEN.out]; exact HE.out.2.2.2.1) (by rw [HEN.out]; exact HE.out.2.2.2.2.1) HO2.out HBY2.out HU.out.2.2.2.2.1 HE.out.2.2.2.2.2 ha2 hb2) ?_; rintro e w3 ⟨hr, hb3⟩; rw [HI2.out, HZ.out] at hr; obtain ⟨co, cn, cm, cg, coff, rfl, hO, hg1, hg2, hln⟩ := retG hr; have hcn : cn = wid Z * hei Z := (by rw [img_len] at hln; exact hln.symm); have HCN := hid hcn; clear hcn; have HB3 := hid (Rc.via HB2.out hb3); have HO3 := hid (And.intro hO (And.intro hg1 (And.intro hg2 (ne_behind hg2)))); have hz3 := HB3.out.size; clear hr hO hg1 hg2 hln)))
      all_goals
        go_wp2_with fail
        go_meet
      all_goals first
        | exact ⟨_, co, cn, cm, cg, coff, rfl, (by omega), has5_set HZ3.out Z.x0 Z.y0 Z.x1 Z.y1 co cn cm, (HO3.out.1.but (but_set5 _ _ _ _ _ _ _) (fun _ => HO3.out.2.2.2)).v, HCN.out, below_set5 HB3.out (by omega) _ _ _ _ _⟩
        | exact ⟨w3.heap.size, co, cn, cm, cg, coff, rfl, hz3, Has5.new rfl Z.x0 Z.y0 Z.x1 Z.y1 co cn cm 26, (HO3.out.1.below ((Below.refl _ _).alloc (Nat.le_refl _) _)).v, HCN.out, HB3.out.alloc hz3 _⟩
    case rest =>
      obtain ⟨k11, do5, dn, dm, dg, doff, rfl, hk11, hD5, hDV, hdn, hDB⟩ := hcut
      obtain ⟨W8, rfl⟩ : ∃ W8, W8 = wc := ⟨_, rfl⟩
      have HT0 : Hid (Cl W B D ao n m k10 k11 Z co cn cm cg coff (morX true (morX false (atX B f) a b) a b) do5 dn dm dg doff (morX false (morX true (atX B f) a b) a b) W8) := ⟨HX7.out.below hDB, HC7.out.1.below hDB, hD5, HC7.out.2.below hDB, hDV⟩
      have hc6 : cn ≤ 1000000 := by have := HCN.out; have := HZO.out.2; omega
      have hd7 : dn ≤ 1000000 := by have := HZO.out.2; omega
      clear hdn hS hD5 hDV hDB HX7 HE7 HC7 hb6 hd6 he6 hk11
      obtain ⟨r0, r1, r2, r3, rf⟩ := HT0.out.x.d
      go_wp2
      clear r0 r1 r2 r3 rf
      go_loopg [12] (D.y1 - D.y0).toNat (fun gh v12 wr => ∃ y, D.y0 ≤ y ∧ (y ≤ D.y1 ∨ y = D.y0) ∧ gh = (D.y1 - y).toNat ∧ v12 = .int .i64 y ∧ Cl W B D ao n m k10 k11 Z co cn cm cg coff (morX true (morX false (atX B f) a b) a b) do5 dn dm dg doff (morX false (morX true (atX B f) a b) a b) wr)
      case atStart => exact ⟨D.y0, Int.le_refl _, .inr rfl, rfl, rfl, HT0.out⟩
      case round =>
        clear HT0
        obtain ⟨y, hy0, hy1, rfl, rfl, hT⟩ := hrel
        have HT := hid hT
        obtain ⟨r0, r1, r2, r3, rf⟩ := hT.x.d
        clear hT
        by_cases hlt : y < D.y1
        · go_wp2
          clear r0 r1 r2 r3 rf
          go_loopg [13] (D.x1 - D.x0).toNat (fun gh v13 wr => ∃ x, D.x0 ≤ x ∧ (x ≤ D.x1 ∨ x = D.x0) ∧ gh = (D.x1 - x).toNat ∧ v13 = .int .i64 x ∧ Cl W B D ao n m k10 k11 Z co cn cm cg coff (morX true (morX false (atX B f) a b) a b) do5 dn dm dg doff (morX false (morX true (atX B f) a b) a b) wr)
          case atStart => exact ⟨D.x0, Int.le_refl _, .inr rfl, rfl, rfl, HT.out⟩
          case round =>
            clear HT
            obtain ⟨x, hx0, hx1, rfl, rfl, hT⟩ := hrel
            have HT := hid hT
            obtain ⟨r0, r1, r2, r3, rf⟩ := hT.x.d
            obtain ⟨b0, b1, b2, b3, b4, bf⟩ := hT.x.b
            clear hT
            by_cases hltx : x < D.x1
            · obtain ⟨p, hp⟩ : ∃ p, atX B f x y = p := ⟨_, rfl⟩
              have HP := hid hp
              have HIN : Hid (hasB D x y = true) := decide_eq_true (by omega)
              clear hp
              go_wp2_with (go_at_call 15; with_reducible refine Calls.mono (refAt_any B ao n m g off f x y _ HU.out.2.2.2.1 (by have := HU.out.1; omega) (by omega) (by omega) (HV.out.below HT.out.x.low)) ?_; rintro e w9 ⟨rfl, hb9⟩; rw [HP.out]; have HT9 := hid (HT.out.below hb9); clear hb9)
              have HS0 : Hid (Cl W B D ao n m k10 k11 Z co cn cm cg coff (morX true (morX false (atX B f) a b) a b) do5 dn dm dg doff (morX false (morX true (atX B f) a b) a b) (w9.alloc (.cells #[.int .u8 p.c0, .int .u8 p.c1, .int .u8 p.c2, .int .u8 p.c3] 33)) ∧ P4 (w9.alloc (.cells #[.int .u8 p.c0, .int .u8 p.c1, .int .u8 p.c2, .int .u8 p.c3] 33)) w9.heap.size p) := by
                have hn4 := Rc.Has4.new (W := w9) (k := w9.heap.size) rfl (.int .u8 p.c0) (.int .u8 p.c1) (.int .u8 p.c2) (.int .u8 p.c3) 33
                refine ⟨HT9.out.below ((Below.refl _ _).alloc (Nat.le_refl _) _), fun j hj => ?_, hn4.fz⟩
                obtain rfl | rfl | rfl | rfl := lt4 hj
                · exact hn4.c0
                · exact hn4.c1
                · exact hn4.c2
                · exact hn4.c3
              clear HT HT9 b0 b1 b2 b3 b4 bf r0 r1 r2 r3 rf
              generalize w9.alloc (.cells #[.int .u8 p.c0, .int .u8 p.c1, .int .u8 p.c2, .int .u8 p.c3] 33) = W9 at HS0 ⊢
              generalize w9.heap.size = kp at HS0 ⊢
              go_loopg [15] 4 (fun gh v15 wr => ∃ i : Nat, i ≤ 4 ∧ gh = 4 - i ∧ v15 = .int .i64 (i : Int) ∧ Cl W B D ao n m k10 k11 Z co cn cm cg coff (morX true (morX false (atX B f) a b) a b) do5 dn dm dg doff (morX false (morX true (atX B f) a b) a b) wr ∧ P4 wr kp p)
              case atStart => exact ⟨0, Nat.zero_le _, rfl, rfl, HS0.out.1, HS0.out.2⟩
              case round =>
                clear HS0
                obtain ⟨i, hi4, rfl, rfl, hT, hP4⟩ := hrel
                have HT := hid hT
                have HP4 := hid hP4
                by_cases hil : i < 4
                · have hiz : (i : Int) < 4 := by omega
                  have hix := fun q w => index_n q hil w
                  obtain ⟨q1, hq1⟩ : ∃ q, atX Z (morX true (morX false (atX B f) a b) a b) x y = q := ⟨_, rfl⟩
                  obtain ⟨q2, hq2⟩ : ∃ q, atX Z (morX false (morX true (atX B f) a b) a b) x y = q := ⟨_, rfl⟩
                  have HQ1 := hid hq1
                  have HQ2 := hid hq2
                  have hle := HCL.out i x y hil HIN.out
                  rw [HP.out, hq1, hq2] at hle
                  have hn1 : decide (chn i q1 < chn i p) = false := decide_eq_false (by omega)
                  have hn2 : decide (chn i p < chn i q2) = false := decide_eq_false (by omega)
                  clear hq1 hq2 hT hle
                  go_wp2
                  have hS : S11 k10 k11 kp i Z (.slice co cn cm) (.slice do5 dn dm) (.int .u8 (chn i p)) wr := ⟨⟨HT.out.c.c0, HT.out.c.c1, HT.out.c.c2, HT.out.c.c3, HT.out.c.c4⟩, ⟨HT.out.d.c0, HT.out.d.c1, HT.out.d.c2, HT.out.d.c3, HT.out.d.c4⟩, hP4.c i hil⟩
                  clear hP4
                  go_region_held3 (fun w' => (w'.cell? ⟨k10, 0, none⟩ = some (.int .i64 Z.x0) ∧ w'.cell? ⟨k10, 1, none⟩ = some (.int .i64 Z.y0) ∧ w'.cell? ⟨k10, 2, none⟩ = some (.int .i64 Z.x1) ∧ w'.cell? ⟨k10, 3, none⟩ = some (.int .i64 Z.y1) ∧ w'.cell? ⟨k10, 4, none⟩ = some (.slice co cn cm)) ∧ (w'.cell? ⟨k11, 0, none⟩ = some (.int .i64 Z.x0) ∧ w'.cell? ⟨k11, 1, none⟩ = some (.int .i64 Z.y0) ∧ w'.cell? ⟨k11, 2, none⟩ = some (.int .i64 Z.x1) ∧ w'.cell? ⟨k11, 3, none⟩ = some (.int .i64 Z.y1) ∧ w'.cell? ⟨k11, 4, none⟩ = some (.slice do5 dn dm)) ∧ w'.cell? ⟨kp, i, none⟩ = some (.int .u8 (chn i p))) (repeat (first | with_reducible assumption | with_reducible refine s11_drew ?_ | with_reducible refine s11_below ?_ ‹_›))
                    ((first
                      | (go_at_call 15; with_reducible refine Calls.mono (refAt_any Z co cn cm cg coff (morX true (morX false (atX B f) a b) a b) x y _ HZO.out.1 hc6 (by omega) (by omega) (HT.out.vc.below (Below.refl _ _).drew)) ?_; rintro e w10 ⟨rfl, hb10⟩; rw [HQ1.out]; have HT10 := hid (HT.out.below (Rc.via ((Below.refl wr.heap.size wr).drew) hb10)); have HP10 := hid (HP4.out.below (Rc.via ((Below.refl wr.heap.size wr).drew) hb10)))
                      | (go_at_call 15; with_reducible refine Calls.mono (refAt_any Z do5 dn dm dg doff (morX false (morX true (atX B f) a b) a b) x y _ HZO.out.1 hd7 (by omega) (by omega) HT10.out.vd) ?_; rintro e w11 ⟨rfl, hb11⟩; rw [HQ2.out]; have HT11 := hid (HT10.out.below hb11); have HP11 := hid (HP10.out.below hb11))))
                  go_wp2
                  go_roundg (4 - (i + 1))
                  case measure => omega
                  case rel => exact ⟨i + 1, by omega, rfl, by simp, HT11.out, HP11.out⟩
                · obtain rfl : i = 4 := by omega
                  clear hT hP4
                  go_wp2
                  go_roundg (D.x1 - (x + 1)).toNat
                  case measure => omega
                  case rel => exact ⟨x + 1, by omega, by omega, rfl, rfl, HT.out⟩
            · go_wp2
              go_roundg (D.y1 - (y + 1)).toNat
              case measure => omega
              case rel => exact ⟨y + 1, by omega, by omega, rfl, rfl, HT.out⟩
        · go_wp2
          go_ret
          exact ⟨rfl, HT.out.x.low⟩

theorem own : ownKnob Try.prog.godebug = none := by kernel_rfl

set_option maxRecDepth 100000 in
theorem lifted (os : Os) (started : os.Started) (H : Type) (enc : TypeId × Value → H) :
    ReturnsInHanded {} Try.checked os 6 .any (Rows.morphClosesSpec.pre6 enc Try.prog Try.f6 Rows.morphClosesRow.domain false) (Rows.morphClosesSpec.post enc Try.prog Try.f6 false true false false) := by
  refine returnsInHanded_of_change (C := Try.checked) own started (by kernel_rfl) Try.func6
    (ChangeSpec.witness6 (enc := enc) (C := Try.checked) false ⟨#[], #[.agg #[.int .i64 0, .int .i64 0, .int .i64 0, .int .i64 0, .slice none 0 0], .agg #[.int .i64 0, .int .i64 0, .int .i64 0, .int .i64 0], .int .i64 0, .int .i64 0], []⟩ 8 (by kernel_rfl) (by kernel_rfl) (by kernel_rfl) (by kernel_rfl)) ?_
  intro W base args ds gs before hval0 hW hcnd _
  have hval : ∀ (j : Nat) t v, Try.f6.params[j]? = some t → args[j]? = some v → Value.okWide Try.prog W .any base t v := hval0
  have hW' := hW
  obtain ⟨p, q, hA0, hV, rfl, hfz, hnd⟩ := hW
  have hA : DataW.TrodAll enc Try.prog W 0 (fun _ => true) true Try.f6.params.toList args.toList ds p := hA0
  rw [Try.params6] at hA hval
  obtain ⟨v0, vs0, d0, ds0, p0, q0, hargs, rfl, rfl, h0, r0⟩ := trodAll_cons hA
  obtain ⟨v1, vs1, d1, ds1, p1, q1, rfl, rfl, rfl, h1, r1⟩ := trodAll_cons r0
  obtain ⟨v2, vs2, d2, ds2, p2, q2, rfl, rfl, rfl, h2, r2⟩ := trodAll_cons r1
  obtain ⟨v3, vs3, d3, ds3, p3, q3, rfl, rfl, rfl, h3, r3⟩ := trodAll_cons r2
  obtain ⟨rfl, rfl, rfl⟩ := trodAll_nil r3
  obtain rfl : args = #[v0, v1, v2, v3] := by cases args; simp_all
  obtain ⟨rfl, rfl⟩ := trodVars_none hV
  obtain ⟨B, ao, n, c, g, off, l, rfl, hv0, hp0⟩ := open_buf (hval 0 26 v0 rfl rfl) h0
  obtain ⟨D, rfl⟩ := open_rect (hval 1 23 v1 rfl rfl) h1
  obtain ⟨rx, rfl, -, -, -⟩ := open_int Try.underlying3 (hval 2 3 v2 rfl rfl) h2
  obtain ⟨ry, rfl, -, -, -⟩ := open_int Try.underlying3 (hval 3 3 v3 rfl rfl) h3
  clear hA0 hval0
  simp only [List.append_nil] at hW'
  have hlt : ∀ x ∈ p0 ++ (p1 ++ (p2 ++ (p3))), x.block < W.heap.size := fun x hx => by simpa using hW'.lt x (by simpa using hx)
  refine (walk B ao n c g off l D rx ry W hv0 hp0).mono fun e W' ⟨he, hg⟩ => ?_
  subst he
  have t0 := Below.trod laidOut (by kernel_rfl) (of_decide_eq_true (by kernel_rfl)) h0 hg (fun x hx => hlt x (List.mem_append_left _ hx))
  have t1 := Below.trod laidOut (by kernel_rfl) (of_decide_eq_true (by kernel_rfl)) h1 hg (fun x hx => hlt x (List.mem_append_right _ (List.mem_append_left _ hx)))
  have t2 := Below.trod laidOut (by kernel_rfl) (of_decide_eq_true (by kernel_rfl)) h2 hg (fun x hx => hlt x (List.mem_append_right _ (List.mem_append_right _ (List.mem_append_left _ hx))))
  have t3 := Below.trod laidOut (by kernel_rfl) (of_decide_eq_true (by kernel_rfl)) h3 hg (fun x hx => hlt x (List.mem_append_right _ (List.mem_append_right _ (List.mem_append_right _ (hx)))))
  exact ⟨_, rfl, ⟨_, _, _, _, _, _, hW', (trodAll_cons_mk (shut_bool Try.underlying4 _) trodAll_mk0), (trodAll_cons_mk t0 (trodAll_cons_mk t1 (trodAll_cons_mk t2 (trodAll_cons_mk t3 trodAll_mk0)))), rfl, hg.frame _, fun h => by cases h⟩⟩

theorem over : Rows.morphClosesRow.holds Try.pinned (OpenSpec.ofChange Rows.morphClosesSpec) :=
  OpenClaim.holds_of_wide 6 Try.f6 rfl rfl rfl rfl rfl rfl rfl ⟨rfl, rfl, rfl, rfl, rfl⟩ rfl rfl rfl rfl rfl (by kernel_rfl) Try.func6 (by kernel_rfl)
    (of_decide_eq_true (by kernel_rfl)) (by unfold Func.isWrapper; first | (rw [if_pos (by decide +kernel)]; kernel_rfl) | (rw [if_neg (by decide +kernel)]; exact ⟨rfl, rfl⟩))
    (fun os started H enc _ => lifted os started H enc)

theorem proved : Rows.MorphClosesSaid := over
#print axioms proved
end Go.Proofs.Ytfkbdpbgeglgaaa.morphCloses
