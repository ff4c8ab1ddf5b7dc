/- Shadows, by the code: a contract. -/
import Derived.Test.YtfgfgfmimejpdaaShadNum
import Derived.Test.YtfgfgfmimejpdaaBoxB
import Derived.Test.YtfgfgfmimejpdaaMoves1
import Derived.Test.YtfgfgfmimejpdaaLay
import Derived.Test.YtfgfgfmimejpdaaRMove
import Derived.Test.YtfgfgfmimejpdaaRGrow
import Derived.Test.YtfgfgfmimejpdaaRRects
import Derived.Test.YtfgfgfmimejpdaaTileB
import Derived.Deep.DeepCutAuto
import Derived.Deep.LoopGhost
namespace Go.Proofs.Ytfgfgfmimejpdaa
open Num Go.RowKit
set_option linter.unusedVariables false
set_option linter.unusedSimpArgs false

/-- what a shadow is made of stands -/
structure Sw (w : World) (B D : R) (p : X) (ao : Option Addr) (n m : Nat) (wr : World) : Prop where
  b : Has5 wr w.heap.size B ao n m
  d : Rc.Has4 wr (w.heap.size + 1) (.int .i64 D.x0) (.int .i64 D.y0) (.int .i64 D.x1) (.int .i64 D.y1)
  q : Rc.Has4 wr (w.heap.size + 1 + 1) (.int .u8 p.c0) (.int .u8 p.c1) (.int .u8 p.c2) (.int .u8 p.c3)
  z : Has5 wr (w.heap.size + 1 + 1 + 1) ⟨0, 0, 0, 0⟩ none 0 0
  low : Below w.heap.size w wr
  sz : (w.heap.size + 1 + 1 + 1 + 1) ≤ wr.heap.size
theorem Sw.below {w : World} {B D : R} {p : X} {ao : Option Addr} {n m : Nat} {wr wr' : World} (x : Sw w B D p ao n m wr) (hb : Below wr.heap.size wr wr') : Sw w B D p ao n m wr' := ⟨x.b.below hb, x.d.below hb, x.q.below hb, x.z.below hb, Rc.via x.low hb, Nat.le_trans x.sz hb.size⟩
theorem Sw.but {w : World} {B D : R} {p : X} {ao : Option Addr} {n m : Nat} {wr wr' : World} (x : Sw w B D p ao n m wr) {j : Nat} (hb : But j wr wr') (hj : (w.heap.size + 1 + 1 + 1 + 1) ≤ j) : Sw w B D p ao n m wr' := ⟨x.b.but hb (by omega), has4_but x.d hb (by omega), has4_but x.q hb (by omega), x.z.but hb (by omega), x.low.trans (hb.low (by omega) x.low.size), Nat.le_trans x.sz hb.size⟩
theorem sw_new (w : World) (B D : R) (p : X) (ao : Option Addr) (n m : Nat) : Sw w B D p ao n m (((((w.alloc (.cells #[.int .i64 B.x0, .int .i64 B.y0, .int .i64 B.x1, .int .i64 B.y1, .slice ao n m] 26)).alloc (.cells #[.int .i64 D.x0, .int .i64 D.y0, .int .i64 D.x1, .int .i64 D.y1] 23)).alloc (.cells #[.int .u8 p.c0, .int .u8 p.c1, .int .u8 p.c2, .int .u8 p.c3] 28)).alloc (.cells #[.int .i64 0, .int .i64 0, .int .i64 0, .int .i64 0, .slice none 0 0] 26))) := ⟨(((Has5.new rfl _ _ _ _ _ _ _ _).alloc _).alloc _).alloc _, ((Rc.Has4.new (by simp) _ _ _ _ _).alloc _).alloc _, (Rc.Has4.new (by simp) _ _ _ _ _).alloc _, Has5.new (by simp) _ _ _ _ _ _ _ _, ((((Below.refl _ _).alloc (Nat.le_refl _) _).alloc (by simp) _).alloc (by simp; omega) _).alloc (by simp; omega) _, by simp⟩
theorem sw_rect {w : World} {B D : R} {p : X} {ao : Option Addr} {n m : Nat} {wr : World} (x : Sw w B D p ao n m wr) : Sw w B D p ao n m (wr.alloc (.cells #[.int .i64 0, .int .i64 0, .int .i64 0, .int .i64 0] 23)) ∧ (w.heap.size + 1 + 1 + 1 + 1) ≤ wr.heap.size ∧ Rc.Has4 (wr.alloc (.cells #[.int .i64 0, .int .i64 0, .int .i64 0, .int .i64 0] 23)) wr.heap.size (.int .i64 0) (.int .i64 0) (.int .i64 0) (.int .i64 0) := ⟨x.below ((Below.refl _ _).alloc (Nat.le_refl _) _), x.sz, Rc.Has4.new rfl _ _ _ _ _⟩
theorem sw_buf {w : World} {B D : R} {p : X} {ao : Option Addr} {n m : Nat} {wr : World} (x : Sw w B D p ao n m wr) : Sw w B D p ao n m (wr.alloc (.cells #[.int .i64 0, .int .i64 0, .int .i64 0, .int .i64 0, .slice none 0 0] 26)) ∧ (w.heap.size + 1 + 1 + 1 + 1) ≤ wr.heap.size ∧ Has5 (wr.alloc (.cells #[.int .i64 0, .int .i64 0, .int .i64 0, .int .i64 0, .slice none 0 0] 26)) wr.heap.size ⟨0, 0, 0, 0⟩ none 0 0 := ⟨x.below ((Below.refl _ _).alloc (Nat.le_refl _) _), x.sz, Has5.new rfl _ _ _ _ _ _ _ _⟩
/-- the shadow of a buffer -/
def shadX (B : R) (f : Int → Int → X) (dx dy : Int) (rx ry : Nat) (p : X) (x y : Int) : X := overX (atX B f x y) (scaleX p (softX B f dx dy rx ry x y).c3)
theorem soft_byte {B : R} {f : Int → Int → X} (hb : ∀ x y, byteX (f x y)) (dx dy : Int) (rx ry : Nat) (x y : Int) : byteX (softX B f dx dy rx ry x y) := blur_byte (at_byte hb) rx ry _ _
theorem scale4 (p : X) (k : Int) (w : World) (hp : byteX p) (hk : 0 ≤ k ∧ k ≤ 255) : Calls Try.prog 56 #[.agg #[.int .u8 p.c0, .int .u8 p.c1, .int .u8 p.c2, .int .u8 p.c3], .int .u8 k] w fun e w' => e = .returned (.agg #[.int .u8 (scaleX p k).c0, .int .u8 (scaleX p k).c1, .int .u8 (scaleX p k).c2, .int .u8 (scaleX p k).c3]) ∧ Below w.heap.size w w' := scale_any p k w hp hk
theorem refScale4 (p : X) (k : Int) (w : World) (hp : byteX p) (hk : 0 ≤ k ∧ k ≤ 255) : Calls Try.prog 59 #[.agg #[.int .u8 p.c0, .int .u8 p.c1, .int .u8 p.c2, .int .u8 p.c3], .int .u8 k] w fun e w' => e = .returned (.agg #[.int .u8 (scaleX p k).c0, .int .u8 (scaleX p k).c1, .int .u8 (scaleX p k).c2, .int .u8 (scaleX p k).c3]) ∧ Below w.heap.size w w' := refScale_any p k w hp hk
theorem ok_cut (a b c d : Int) : Ok (cutR a b c d) := by
  unfold cutR
  apply ok_orN
  unfold Ok cutN mx mn
  dsimp only
  omega
theorem ok_grow (D : R) (a b c d : Int) : Ok (grow D a b c d) := by
  unfold grow
  split
  · exact ok_nil
  · exact ok_cut _ _ _ _
theorem ok_moveR (D : R) (a b : Int) : Ok (moveR D a b) := by
  unfold moveR
  split
  · exact ok_nil
  · exact ok_cut _ _ _ _
theorem ok_buf {B : R} {n : Nat} (h : bufB B n = true) : Ok B := by
  rcases buf_cases h with ⟨e1, e2, -⟩ | ⟨e1, e2, e3⟩
  · rw [e2]; exact ok_nil
  · exact ok_of_right e2
theorem ox_half {lo : Nat} {w : World} {ao : Option Addr} {n m g off : Nat} {l : List X} (h : Ox lo w ao n m g off l) (P : Nat → Prop) (hP : 0 < m → P g) (hf : ∀ k, w.heap.size ≤ k → P k) : ∃ g', Ox lo w ao n m g' off l ∧ P g' := by
  rcases Nat.eq_zero_or_pos m with hm | hm
  · subst hm
    have h0 : n = 0 := by have := h.v.le; omega
    have hl : flat l = [] := List.length_eq_zero_iff.1 (by have := h.v.len; omega)
    refine ⟨w.heap.size, ⟨⟨h.v.len, h.v.le, h.v.max, fun hc => absurd hc (by omega), ?_⟩, fun hc => absurd hc (by omega), fun j hj => absurd hj (by omega)⟩, hf _ (Nat.le_refl _)⟩
    rw [hl]
    exact lies_nil _ _ _
  · exact ⟨g, h, hP hm⟩
theorem ne_pre {w : World} {k eg n m : Nat} {Z : R} {ao : Option Addr} (h : Has5 w k Z ao n m) (hg : w.heap.size ≤ eg) : k ≠ eg := by have := h.lt; omega
theorem ox_px {lo : Nat} {w : World} {ao : Option Addr} {n m g off : Nat} {l : List X} (h : Ox lo w ao n m g off l) {i : Nat} {p : X} (hp : l[i]? = some p) :
    (w.cell? ⟨g, off + i * 4, none⟩ = some (.int .u8 p.c0) ∧ w.cell? ⟨g, off + i * 4 + 1, none⟩ = some (.int .u8 p.c1) ∧ w.cell? ⟨g, off + i * 4 + 2, none⟩ = some (.int .u8 p.c2) ∧ w.cell? ⟨g, off + i * 4 + 3, none⟩ = some (.int .u8 p.c3)) ∧ (w.frozen? ⟨g, off + i * 4, none⟩ = false ∧ w.frozen? ⟨g, off + i * 4 + 1, none⟩ = false ∧ w.frozen? ⟨g, off + i * 4 + 2, none⟩ = false ∧ w.frozen? ⟨g, off + i * 4 + 3, none⟩ = false) := by
  have h1 := ox_cells h (q := 0) (i := i) (by rw [Nat.zero_add]; exact hp)
  rw [show off + 0 * 4 + i * 4 = off + i * 4 by omega] at h1
  exact h1
/-- a list of which the first are changed -/
def halfL (l : List X) (s : X → X) (i : Nat) : List X := (l.map s).take i ++ l.drop i
theorem half_len (l : List X) (s : X → X) (i : Nat) (hi : i ≤ l.length) : (halfL l s i).length = l.length := by
  unfold halfL
  rw [List.length_append, List.length_take, List.length_drop, List.length_map]
  omega
theorem half_at {l : List X} {s : X → X} {i : Nat} {r : X} (h : l[i]? = some r) : (halfL l s i)[i]? = some r := by
  have hi : i < l.length := (List.getElem?_eq_some_iff.1 h).1
  unfold halfL
  rw [List.getElem?_append_right (by rw [List.length_take, List.length_map]; omega), List.length_take, List.length_map, List.getElem?_drop]
  rw [show i + (i - min i l.length) = i by omega]
  exact h
theorem half_step {l : List X} {s : X → X} {i : Nat} {r : X} (h : l[i]? = some r) : setL (halfL l s i) i [s r] = halfL l s (i + 1) := by
  have hi : i < l.length := (List.getElem?_eq_some_iff.1 h).1
  have ht : ((l.map s).take i).length = i := by rw [List.length_take, List.length_map]; omega
  unfold setL halfL
  have e1 : ((l.map s).take i ++ l.drop i).take i = (l.map s).take i := by
    rw [List.take_append_of_le_length (by omega), List.take_of_length_le (by omega)]
  have e2 : ((l.map s).take i ++ l.drop i).drop (i + [s r].length) = l.drop (i + 1) := by
    rw [List.drop_append, ht, List.drop_eq_nil_of_le (by omega), List.nil_append, List.drop_drop]
    congr 1
    simp
  rw [e1, e2, List.take_add_one, List.getElem?_map, h]
  simp
theorem img_mem {Q : R} {G : Int → Int → X} {r : X} (h : r ∈ img Q G) : ∃ x y, r = G x y := by
  unfold img at h
  obtain ⟨i, -, hi⟩ := List.mem_map.1 h
  exact ⟨_, _, hi.symm⟩
theorem half_0 (l : List X) (s : X → X) : halfL l s 0 = l := by unfold halfL; simp
theorem half_all (l : List X) (s : X → X) (n : Nat) (h : l.length ≤ n) : halfL l s n = l.map s := by
  unfold halfL
  rw [List.take_of_length_le (by rw [List.length_map]; exact h), List.drop_eq_nil_of_le h, List.append_nil]
/-- with the area -/
structure Sy (w : World) (B D : R) (p : X) (ao : Option Addr) (n m : Nat) (ka : Nat) (A : R) (wr : World) : Prop where
  x : Sw w B D p ao n m wr
  a : Rc.Has4 wr ka (.int .i64 A.x0) (.int .i64 A.y0) (.int .i64 A.x1) (.int .i64 A.y1)
  k : (w.heap.size + 1 + 1 + 1 + 1) ≤ ka
theorem Sy.below {w : World} {B D : R} {p : X} {ao : Option Addr} {n m : Nat} {ka : Nat} {A : R} {wr wr' : World} (x : Sy w B D p ao n m ka A wr) (hb : Below wr.heap.size wr wr') : Sy w B D p ao n m ka A wr' := ⟨x.x.below hb, x.a.below hb, x.k⟩
theorem Sy.but {w : World} {B D : R} {p : X} {ao : Option Addr} {n m : Nat} {ka : Nat} {A : R} {wr wr' : World} (x : Sy w B D p ao n m ka A wr) {j : Nat} (hb : But j wr wr') (hj : (w.heap.size + 1 + 1 + 1 + 1) ≤ j) (hk : ka ≠ j) : Sy w B D p ao n m ka A wr' := ⟨x.x.but hb hj, has4_but x.a hb hk, x.k⟩
theorem sy_buf {w : World} {B D : R} {p : X} {ao : Option Addr} {n m : Nat} {ka : Nat} {A : R} {wr : World} (x : Sy w B D p ao n m ka A wr) : Sy w B D p ao n m ka A (wr.alloc (.cells #[.int .i64 0, .int .i64 0, .int .i64 0, .int .i64 0, .slice none 0 0] 26)) ∧ (w.heap.size + 1 + 1 + 1 + 1) ≤ wr.heap.size ∧ Has5 (wr.alloc (.cells #[.int .i64 0, .int .i64 0, .int .i64 0, .int .i64 0, .slice none 0 0] 26)) wr.heap.size ⟨0, 0, 0, 0⟩ none 0 0 ∧ ka ≠ wr.heap.size := ⟨x.below ((Below.refl _ _).alloc (Nat.le_refl _) _), x.x.sz, Has5.new rfl _ _ _ _ _ _ _ _, Nat.ne_of_lt (World.block_lt_of_cell? wr ⟨ka, 0, none⟩ x.a.c0)⟩
/-- while pixels are scaled -/
structure Sl (w : World) (B D : R) (p : X) (ao : Option Addr) (n m : Nat) (k16 : Nat) (eo : Option Addr) (en em eg eoff : Nat) (l : List X) (wr : World) : Prop where
  x : Sw w B D p ao n m wr
  h : Has5 wr k16 (orN D) eo en em
  o : Ox (w.heap.size + 1 + 1 + 1 + 1) wr eo en em eg eoff l
  k : (w.heap.size + 1 + 1 + 1 + 1) ≤ k16
  g : (w.heap.size + 1 + 1 + 1 + 1) ≤ eg
  ne : k16 ≠ eg
theorem Sl.below {w : World} {B D : R} {p : X} {ao : Option Addr} {n m : Nat} {k16 : Nat} {eo : Option Addr} {en em eg eoff : Nat} {l : List X} {wr wr' : World} (x : Sl w B D p ao n m k16 eo en em eg eoff l wr) (hb : Below wr.heap.size wr wr') : Sl w B D p ao n m k16 eo en em eg eoff l wr' := ⟨x.x.below hb, x.h.below hb, x.o.below hb, x.k, x.g, x.ne⟩
theorem Sl.to {w : World} {B D : R} {p : X} {ao : Option Addr} {n m : Nat} {k16 : Nat} {eo : Option Addr} {en em eg eoff : Nat} {l l' : List X} {wr wr' : World} (x : Sl w B D p ao n m k16 eo en em eg eoff l wr) (hb : But eg wr wr') (ho : Ox (w.heap.size + 1 + 1 + 1 + 1) wr' eo en em eg eoff l') : Sl w B D p ao n m k16 eo en em eg eoff l' wr' := ⟨x.x.but hb x.g, x.h.but hb x.ne, ho, x.k, x.g, x.ne⟩

set_option maxRecDepth 100000 in
set_option maxHeartbeats 8000000 in
theorem shadow_any (B : R) (ao : Option Addr) (n m g off : Nat) (f : Int → Int → X) (D : R) (dx dy : Int) (rx ry : Nat) (p : X) (w : World) (hn : n ≤ 5000) (hB : bufB B n = true) (hV : Vx w ao n m g off (img B f)) (hb : ∀ x y, byteX (f x y)) (hD : Half D) (ha : area (grow D (rx : Int) (ry : Int) (rx : Int) (ry : Int)) ≤ 5000) (hx : rx ≤ 255) (hy : ry ≤ 255) (hdx : -33554432 ≤ dx ∧ dx ≤ 33554432) (hdy : -33554432 ≤ dy ∧ dy ≤ 33554432) (hp : byteX p) :
    Calls Try.prog 27 #[.agg #[.int .i64 B.x0, .int .i64 B.y0, .int .i64 B.x1, .int .i64 B.y1, .slice ao n m], .agg #[.int .i64 D.x0, .int .i64 D.y0, .int .i64 D.x1, .int .i64 D.y1], .int .i64 dx, .int .i64 dy, .int .i64 (rx : Int), .int .i64 (ry : Int), .agg #[.int .u8 p.c0, .int .u8 p.c1, .int .u8 p.c2, .int .u8 p.c3]] w fun e w' => RetB w.heap.size w' e (orN D) (img (orN D) (shadX B f dx dy rx ry p)) ∧ Below w.heap.size w w' := by
  obtain ⟨Gr, hGr⟩ : ∃ X, X = grow D (rx : Int) (ry : Int) (rx : Int) (ry : Int) := ⟨_, rfl⟩
  obtain ⟨Mv, hMv⟩ : ∃ X, X = moveR B dx dy := ⟨_, rfl⟩
  obtain ⟨A, hA⟩ : ∃ X, X = meet Gr Mv := ⟨_, rfl⟩
  have HGR : Hid (grow ⟨D.x0, D.y0, D.x1, D.y1⟩ (rx : Int) (ry : Int) (rx : Int) (ry : Int) = Gr) := hGr.symm
  have HMV : Hid (moveR ⟨B.x0, B.y0, B.x1, B.y1⟩ dx dy = Mv) := hMv.symm
  have HMM : Hid (meet ⟨Gr.x0, Gr.y0, Gr.x1, Gr.y1⟩ ⟨Mv.x0, Mv.y0, Mv.x1, Mv.y1⟩ = A) := hA.symm
  have HS : Hid (img (orN D) (blurG (atX (orN A) (fun x y => atX B f (x - dx) (y - dy))) rx ry) = img (orN D) (softX B f dx dy rx ry)) := hid (by rw [hA, hGr, hMv]; exact soft_img hB hn hD hx hy hdx hdy)
  have hAo : Ok A := by rw [hA, hGr, hMv]; exact ok_meet (ok_grow _ _ _ _ _) (ok_moveR _ _ _)
  have hAa : area A ≤ 5000 := by rw [hA]; exact Int.le_trans (meet_l _ _) (by rw [hGr]; exact ha)
  have HAO : Hid (Ok A ∧ area A ≤ 5000 ∧ bufB (orN A) (wid (orN A) * hei (orN A)) = true ∧ wid (orN A) * hei (orN A) ≤ 5000) := hid ⟨hAo, hAa, (buf_new hAo hAa).1, (buf_new hAo hAa).2.1⟩
  have HC : Hid ((0 ≤ (rx : Int) ∧ (rx : Int) ≤ 4398046511104) ∧ (0 ≤ (ry : Int) ∧ (ry : Int) ≤ 4398046511104)) := hid ⟨⟨by omega, by omega⟩, by omega, by omega⟩
  have HDX : Hid ((-4398046511104 ≤ dx ∧ dx ≤ 4398046511104) ∧ (-4398046511104 ≤ dy ∧ dy ≤ 4398046511104)) := hid ⟨⟨by omega, by omega⟩, by omega, by omega⟩
  have HD := hid (And.intro hD (And.intro ha (And.intro hx hy)))
  have HB := hid (And.intro hn (And.intro hB trivial))
  have HV := hid hV
  have HBY : Hid (∀ x y, byteX ((fun x y => atX B f (x - dx) (y - dy)) x y)) := hid (fun x y => at_byte hb _ _)
  have HBB := hid (And.intro hb hp)
  have hgr : Ok D := hD.ok
  have hag : area D ≤ 5000 := Int.le_trans (grow_area hD hx hy) ha
  have HQ : Hid (bufB (orN D) (wid (orN D) * hei (orN D)) = true ∧ wid (orN D) * hei (orN D) ≤ 5000) := hid ⟨(buf_new hgr hag).1, (buf_new hgr hag).2.1⟩
  have HX : Hid (Sw w B D p ao n m (((((w.alloc (.cells #[.int .i64 B.x0, .int .i64 B.y0, .int .i64 B.x1, .int .i64 B.y1, .slice ao n m] 26)).alloc (.cells #[.int .i64 D.x0, .int .i64 D.y0, .int .i64 D.x1, .int .i64 D.y1] 23)).alloc (.cells #[.int .u8 p.c0, .int .u8 p.c1, .int .u8 p.c2, .int .u8 p.c3] 28)).alloc (.cells #[.int .i64 0, .int .i64 0, .int .i64 0, .int .i64 0, .slice none 0 0] 26)))) := sw_new w B D p ao n m
  clear hGr hMv hA hAo hAa hD ha hx hy hdx hdy hn hB hV hb hp hgr hag
  go_enter Try.func27, Try.ntmps27
  go_wp2
  generalize (((((w.alloc (.cells #[.int .i64 B.x0, .int .i64 B.y0, .int .i64 B.x1, .int .i64 B.y1, .slice ao n m] 26)).alloc (.cells #[.int .i64 D.x0, .int .i64 D.y0, .int .i64 D.x1, .int .i64 D.y1] 23)).alloc (.cells #[.int .u8 p.c0, .int .u8 p.c1, .int .u8 p.c2, .int .u8 p.c3] 28)).alloc (.cells #[.int .i64 0, .int .i64 0, .int .i64 0, .int .i64 0, .slice none 0 0] 26))) = w0 at HX ⊢
  go_cut [15] (fun v15 wx => ∃ ka, v15 = .pointer (some ⟨ka, 0, none⟩) ∧ Sy w B D p ao n m ka A wx)
  case first =>
    replace HX := hid (HX.out.below (Below.refl _ _).drew)
    refine wp_region_held_drew (S := (fun w' => w'.cell? ⟨w.heap.size, 0, none⟩ = some (.int .i64 B.x0) ∧ w'.cell? ⟨w.heap.size, 1, none⟩ = some (.int .i64 B.y0) ∧ w'.cell? ⟨w.heap.size, 2, none⟩ = some (.int .i64 B.x1) ∧ w'.cell? ⟨w.heap.size, 3, none⟩ = some (.int .i64 B.y1) ∧ w'.cell? ⟨w.heap.size, 4, none⟩ = some (.slice ao n m) ∧ w'.cell? ⟨(w.heap.size + 1), 0, none⟩ = some (.int .i64 D.x0) ∧ w'.cell? ⟨(w.heap.size + 1), 1, none⟩ = some (.int .i64 D.y0) ∧ w'.cell? ⟨(w.heap.size + 1), 2, none⟩ = some (.int .i64 D.x1) ∧ w'.cell? ⟨(w.heap.size + 1), 3, none⟩ = some (.int .i64 D.y1))) (by kernel_rfl) ?_ (fun hHeld => ?_)
    · exact ⟨HX.out.b.c0, HX.out.b.c1, HX.out.b.c2, HX.out.b.c3, HX.out.b.c4, HX.out.d.c0, HX.out.d.c1, HX.out.d.c2, HX.out.d.c3⟩
    generalize w0.drew = wd at HX hHeld ⊢
    refine wpAnyH_take (i := 0) (oi := { dst := some 19, op := Op.load 23 (Operand.tmp 8), type := 23, pos := "move.go:45", after := #[], guard := none }) (v := ?_) rfl (by kernel_rfl) (by kernel_rfl) (by kernel_rfl) (fun _ _ _ h => h) (Or.inl ⟨by rfl, ?hy⟩) (by assumption) ?_
    case hy => (intro w hSw; (try dsimp only at hSw); go_simp; first | done | with_reducible rfl)
    try simp only [Act.put, List.setIfInBounds_toArray, List.set_cons_zero, List.set_cons_succ]
    refine wpAnyH_take (i := 1) (oi := { dst := some 20, op := Op.move (Operand.tmp 4), type := 3, pos := "move.go:45", after := #[], guard := none }) (v := ?_) rfl (by kernel_rfl) (by kernel_rfl) (by kernel_rfl) (fun _ _ _ h => h) (Or.inl ⟨by rfl, ?hy⟩) (by assumption) ?_
    case hy => (intro w hSw; (try dsimp only at hSw); go_simp; first | done | with_reducible rfl)
    try simp only [Act.put, List.setIfInBounds_toArray, List.set_cons_zero, List.set_cons_succ]
    refine wpAnyH_take (i := 2) (oi := { dst := some 21, op := Op.move (Operand.tmp 5), type := 3, pos := "move.go:45", after := #[], guard := none }) (v := ?_) rfl (by kernel_rfl) (by kernel_rfl) (by kernel_rfl) (fun _ _ _ h => h) (Or.inl ⟨by rfl, ?hy⟩) (by assumption) ?_
    case hy => (intro w hSw; (try dsimp only at hSw); go_simp; first | done | with_reducible rfl)
    try simp only [Act.put, List.setIfInBounds_toArray, List.set_cons_zero, List.set_cons_succ]
    refine wpAnyH_take (i := 3) (oi := { dst := some 22, op := Op.move (Operand.tmp 4), type := 3, pos := "move.go:45", after := #[], guard := none }) (v := ?_) rfl (by kernel_rfl) (by kernel_rfl) (by kernel_rfl) (fun _ _ _ h => h) (Or.inl ⟨by rfl, ?hy⟩) (by assumption) ?_
    case hy => (intro w hSw; (try dsimp only at hSw); go_simp; first | done | with_reducible rfl)
    try simp only [Act.put, List.setIfInBounds_toArray, List.set_cons_zero, List.set_cons_succ]
    refine wpAnyH_take (i := 4) (oi := { dst := some 23, op := Op.move (Operand.tmp 5), type := 3, pos := "move.go:45", after := #[], guard := none }) (v := ?_) rfl (by kernel_rfl) (by kernel_rfl) (by kernel_rfl) (fun _ _ _ h => h) (Or.inl ⟨by rfl, ?hy⟩) (by assumption) ?_
    case hy => (intro w hSw; (try dsimp only at hSw); go_simp; first | done | with_reducible rfl)
    try simp only [Act.put, List.setIfInBounds_toArray, List.set_cons_zero, List.set_cons_succ]
    refine wpAnyH_take (i := 6) (oi := { dst := some 25, op := Op.fieldAddr 26 (Operand.tmp 7) 0, type := 0, pos := "move.go:45", after := #[], guard := none }) (v := ?_) rfl (by kernel_rfl) (by kernel_rfl) (by kernel_rfl) (fun _ _ _ h => h) (Or.inl ⟨by rfl, ?hy⟩) (by assumption) ?_
    case hy => (intro w hSw; (try dsimp only at hSw); go_simp; first | done | with_reducible rfl)
    try simp only [Act.put, List.setIfInBounds_toArray, List.set_cons_zero, List.set_cons_succ]
    refine wpAnyH_take (i := 7) (oi := { dst := some 26, op := Op.load 23 (Operand.tmp 25), type := 23, pos := "move.go:45", after := #[{ on := 6, ground := Ground.data }], guard := none }) (v := ?_) rfl (by kernel_rfl) (by kernel_rfl) (by kernel_rfl) (fun _ _ _ h => h) (Or.inl ⟨by rfl, ?hy⟩) (by assumption) ?_
    case hy => (intro w hSw; (try dsimp only at hSw); go_simp; first | done | with_reducible rfl)
    try simp only [Act.put, List.setIfInBounds_toArray, List.set_cons_zero, List.set_cons_succ]
    refine wpAnyH_take (i := 8) (oi := { dst := some 27, op := Op.move (Operand.tmp 2), type := 3, pos := "move.go:45", after := #[], guard := none }) (v := ?_) rfl (by kernel_rfl) (by kernel_rfl) (by kernel_rfl) (fun _ _ _ h => h) (Or.inl ⟨by rfl, ?hy⟩) (by assumption) ?_
    case hy => (intro w hSw; (try dsimp only at hSw); go_simp; first | done | with_reducible rfl)
    try simp only [Act.put, List.setIfInBounds_toArray, List.set_cons_zero, List.set_cons_succ]
    refine wpAnyH_take (i := 9) (oi := { dst := some 28, op := Op.move (Operand.tmp 3), type := 3, pos := "move.go:45", after := #[], guard := none }) (v := ?_) rfl (by kernel_rfl) (by kernel_rfl) (by kernel_rfl) (fun _ _ _ h => h) (Or.inl ⟨by rfl, ?hy⟩) (by assumption) ?_
    case hy => (intro w hSw; (try dsimp only at hSw); go_simp; first | done | with_reducible rfl)
    try simp only [Act.put, List.setIfInBounds_toArray, List.set_cons_zero, List.set_cons_succ]
    refine wpAnyH_ready (rs := [5, 12]) (by kernel_rfl) (by simp) ?_
    refine AllReadyH.cons (o := { dst := some 24, op := Op.call { callee := Callee.value (Operand.func 54), args := #[Operand.tmp 19, Operand.tmp 20, Operand.tmp 21, Operand.tmp 22, Operand.tmp 23], argTypes := #[23, 3, 3, 3, 3] }, type := 23, pos := "move.go:45", after := #[{ on := 0, ground := Ground.data }, { on := 1, ground := Ground.data }, { on := 2, ground := Ground.data }, { on := 3, ground := Ground.data }, { on := 4, ground := Ground.data }], guard := none }) rfl (fun K hK => ?_) (AllReadyH.cons (o := { dst := some 15, op := Op.alloc 23, type := 0, pos := "move.go:45", after := #[], guard := none }) rfl (fun K hK => ?_) AllReadyH.nil)
    · go_simp
      (go_at_call 54; with_reducible refine Calls.mono (Rc.grow_any D.x0 D.y0 D.x1 D.y1 (rx : Int) (ry : Int) (rx : Int) (ry : Int) _ HD.out.1.ok HC.out.1 HC.out.2 HC.out.1 HC.out.2) ?_; rintro e wc ⟨rfl, hb⟩; rw [HGR.out]; replace HX := hid (HX.out.below hb); (try (replace HA := hid (And.intro HA.out.1 (HA.out.2.below hb)); clear y0 y1 y2 y3 yf; obtain ⟨y0, y1, y2, y3, yf⟩ := HA.out.2)); clear hb)
      go_wp2_with fail
      refine hK.out _ _ ?_ (fun hHeld => ?_)
      · exact ⟨HX.out.b.c0, HX.out.b.c1, HX.out.b.c2, HX.out.b.c3, HX.out.b.c4, HX.out.d.c0, HX.out.d.c1, HX.out.d.c2, HX.out.d.c3⟩
      clear hK K
      try simp only [Act.put, List.setIfInBounds_toArray, List.set_cons_zero, List.set_cons_succ]
      refine wpAnyH_ready (rs := [10, 12]) (by kernel_rfl) (by simp) ?_
      refine AllReadyH.cons (o := { dst := some 29, op := Op.call { callee := Callee.value (Operand.func 43), args := #[Operand.tmp 26, Operand.tmp 27, Operand.tmp 28], argTypes := #[23, 3, 3] }, type := 23, pos := "move.go:45", after := #[{ on := 7, ground := Ground.data }, { on := 8, ground := Ground.data }, { on := 9, ground := Ground.data }, { on := 5, ground := Ground.chain }], guard := none }) rfl (fun K hK => ?_) (AllReadyH.cons (o := { dst := some 15, op := Op.alloc 23, type := 0, pos := "move.go:45", after := #[], guard := none }) rfl (fun K hK => ?_) AllReadyH.nil)
      · go_simp
        (go_at_call 43; with_reducible refine Calls.mono (Rc.move_any B.x0 B.y0 B.x1 B.y1 dx dy _ (ok_buf HB.out.2.1) HDX.out.1 HDX.out.2) ?_; rintro e wc ⟨rfl, hb⟩; rw [HMV.out]; replace HX := hid (HX.out.below hb); (try (replace HA := hid (And.intro HA.out.1 (HA.out.2.below hb)); clear y0 y1 y2 y3 yf; obtain ⟨y0, y1, y2, y3, yf⟩ := HA.out.2)); clear hb)
        go_wp2_with fail
        refine hK.out _ _ ?_ (fun hHeld => ?_)
        · exact ⟨HX.out.b.c0, HX.out.b.c1, HX.out.b.c2, HX.out.b.c3, HX.out.b.c4, HX.out.d.c0, HX.out.d.c1, HX.out.d.c2, HX.out.d.c3⟩
        clear hK K
        try simp only [Act.put, List.setIfInBounds_toArray, List.set_cons_zero, List.set_cons_succ]
        refine wpAnyH_ready (rs := [11, 12]) (by kernel_rfl) (by simp) ?_
        refine AllReadyH.cons (o := { dst := some 30, op := Op.call { callee := Callee.value (Operand.func 42), args := #[Operand.tmp 24, Operand.tmp 29], argTypes := #[23, 23] }, type := 23, pos := "move.go:45", after := #[{ on := 5, ground := Ground.data }, { on := 10, ground := Ground.data }, { on := 10, ground := Ground.chain }], guard := none }) rfl (fun K hK => ?_) (AllReadyH.cons (o := { dst := some 15, op := Op.alloc 23, type := 0, pos := "move.go:45", after := #[], guard := none }) rfl (fun K hK => ?_) AllReadyH.nil)
        · go_simp
          (go_at_call 42; with_reducible refine Calls.mono (Rc.meet_any Gr.x0 Gr.y0 Gr.x1 Gr.y1 Mv.x0 Mv.y0 Mv.x1 Mv.y1 _) ?_; rintro e wc ⟨rfl, hb⟩; rw [HMM.out]; replace HX := hid (HX.out.below hb); (try (replace HA := hid (And.intro HA.out.1 (HA.out.2.below hb)); clear y0 y1 y2 y3 yf; obtain ⟨y0, y1, y2, y3, yf⟩ := HA.out.2)); clear hb)
          go_wp2_with fail
          refine hK.out _ _ ?_ (fun hHeld => ?_)
          · exact ⟨HX.out.b.c0, HX.out.b.c1, HX.out.b.c2, HX.out.b.c3, HX.out.b.c4, HX.out.d.c0, HX.out.d.c1, HX.out.d.c2, HX.out.d.c3⟩
          clear hK K
          try simp only [Act.put, List.setIfInBounds_toArray, List.set_cons_zero, List.set_cons_succ]
          refine wpAnyH_ready (rs := [12]) (by kernel_rfl) (by simp) ?_
          refine AllReadyH.cons (o := { dst := some 15, op := Op.alloc 23, type := 0, pos := "move.go:45", after := #[], guard := none }) rfl (fun K hK => ?_) AllReadyH.nil
          go_simp
          refine hK.out _ _ ?_ (fun hHeld => ?_)
          · have hXn := (sw_rect HX.out).1
            exact ⟨hXn.b.c0, hXn.b.c1, hXn.b.c2, hXn.b.c3, hXn.b.c4, hXn.d.c0, hXn.d.c1, hXn.d.c2, hXn.d.c3⟩
          clear hK K
          try simp only [Act.put, List.setIfInBounds_toArray, List.set_cons_zero, List.set_cons_succ]
          have HXp := HX
          have HA := hid (sw_rect HX.out).2
          replace HX := hid (sw_rect HX.out).1
          obtain ⟨y0, y1, y2, y3, yf⟩ := HA.out.2
          refine wpAnyH_ready (rs := [13]) (by kernel_rfl) (by simp) ?_
          refine AllReadyH.cons (o := { dst := none, op := Op.store 23 (Operand.tmp 15) (Operand.tmp 30), type := 0, pos := "move.go:45", after := #[{ on := 12, ground := Ground.data }, { on := 11, ground := Ground.data }, { on := 11, ground := Ground.chain }, { on := 0, ground := Ground.phase }, { on := 1, ground := Ground.phase }, { on := 2, ground := Ground.phase }, { on := 3, ground := Ground.phase }, { on := 4, ground := Ground.phase }, { on := 5, ground := Ground.phase }, { on := 6, ground := Ground.phase }, { on := 7, ground := Ground.phase }, { on := 8, ground := Ground.phase }, { on := 9, ground := Ground.phase }, { on := 10, ground := Ground.phase }, { on := 11, ground := Ground.phase }, { on := 12, ground := Ground.phase }], guard := none }) rfl (fun K hK => ?_) AllReadyH.nil
          go_simp
          refine hK.out _ _ ?_ (fun hHeld => ?_)
          · first
              | (have hXn := HX.out.but (but_set4 _ _ (.int .i64 A.x0) (.int .i64 A.y0) (.int .i64 A.x1) (.int .i64 A.y1)) HA.out.1; with_reducible exact ⟨hXn.b.c0, hXn.b.c1, hXn.b.c2, hXn.b.c3, hXn.b.c4, hXn.d.c0, hXn.d.c1, hXn.d.c2, hXn.d.c3⟩)
              | (have hXn := HXp.out.below ((Below.refl _ _).alloc (Nat.le_refl _) (.cells #[.int .i64 A.x0, .int .i64 A.y0, .int .i64 A.x1, .int .i64 A.y1] 23)); with_reducible exact ⟨hXn.b.c0, hXn.b.c1, hXn.b.c2, hXn.b.c3, hXn.b.c4, hXn.d.c0, hXn.d.c1, hXn.d.c2, hXn.d.c3⟩)
          clear hK K
          try simp only [Act.put, List.setIfInBounds_toArray, List.set_cons_zero, List.set_cons_succ]
          refine wpAnyH_done (by kernel_rfl) ?_ _
          go_wp2_with fail
          go_meet
          case rel =>
            first
              | with_reducible exact ⟨_, rfl, HX.out.but (but_set4 _ _ (.int .i64 A.x0) (.int .i64 A.y0) (.int .i64 A.x1) (.int .i64 A.y1)) HA.out.1, has4_set HA.out.2 (.int .i64 A.x0) (.int .i64 A.y0) (.int .i64 A.x1) (.int .i64 A.y1), HA.out.1⟩
              | with_reducible exact ⟨_, rfl, HXp.out.below ((Below.refl _ _).alloc (Nat.le_refl _) (.cells #[.int .i64 A.x0, .int .i64 A.y0, .int .i64 A.x1, .int .i64 A.y1] 23)), Rc.Has4.new rfl _ _ _ _ _, HXp.out.sz⟩
        · go_simp
          refine hK.out _ _ ?_ (fun hHeld => ?_)
          · have hXn := (sw_rect HX.out).1
            exact ⟨hXn.b.c0, hXn.b.c1, hXn.b.c2, hXn.b.c3, hXn.b.c4, hXn.d.c0, hXn.d.c1, hXn.d.c2, hXn.d.c3⟩
          clear hK K
          try simp only [Act.put, List.setIfInBounds_toArray, List.set_cons_zero, List.set_cons_succ]
          have HXp := HX
          have HA := hid (sw_rect HX.out).2
          replace HX := hid (sw_rect HX.out).1
          obtain ⟨y0, y1, y2, y3, yf⟩ := HA.out.2
          refine wpAnyH_ready (rs := [11]) (by kernel_rfl) (by simp) ?_
          refine AllReadyH.cons (o := { dst := some 30, op := Op.call { callee := Callee.value (Operand.func 42), args := #[Operand.tmp 24, Operand.tmp 29], argTypes := #[23, 23] }, type := 23, pos := "move.go:45", after := #[{ on := 5, ground := Ground.data }, { on := 10, ground := Ground.data }, { on := 10, ground := Ground.chain }], guard := none }) rfl (fun K hK => ?_) AllReadyH.nil
          go_simp
          (go_at_call 42; with_reducible refine Calls.mono (Rc.meet_any Gr.x0 Gr.y0 Gr.x1 Gr.y1 Mv.x0 Mv.y0 Mv.x1 Mv.y1 _) ?_; rintro e wc ⟨rfl, hb⟩; rw [HMM.out]; replace HX := hid (HX.out.below hb); (try (replace HA := hid (And.intro HA.out.1 (HA.out.2.below hb)); clear y0 y1 y2 y3 yf; obtain ⟨y0, y1, y2, y3, yf⟩ := HA.out.2)); clear hb)
          go_wp2_with fail
          refine hK.out _ _ ?_ (fun hHeld => ?_)
          · exact ⟨HX.out.b.c0, HX.out.b.c1, HX.out.b.c2, HX.out.b.c3, HX.out.b.c4, HX.out.d.c0, HX.out.d.c1, HX.out.d.c2, HX.out.d.c3⟩
          clear hK K
          try simp only [Act.put, List.setIfInBounds_toArray, List.set_cons_zero, List.set_cons_succ]
          refine wpAnyH_ready (rs := [13]) (by kernel_rfl) (by simp) ?_
          refine AllReadyH.cons (o := { dst := none, op := Op.store 23 (Operand.tmp 15) (Operand.tmp 30), type := 0, pos := "move.go:45", after := #[{ on := 12, ground := Ground.data }, { on := 11, ground := Ground.data }, { on := 11, ground := Ground.chain }, { on := 0, ground := Ground.phase }, { on := 1, ground := Ground.phase }, { on := 2, ground := Ground.phase }, { on := 3, ground := Ground.phase }, { on := 4, ground := Ground.phase }, { on := 5, ground := Ground.phase }, { on := 6, ground := Ground.phase }, { on := 7, ground := Ground.phase }, { on := 8, ground := Ground.phase }, { on := 9, ground := Ground.phase }, { on := 10, ground := Ground.phase }, { on := 11, ground := Ground.phase }, { on := 12, ground := Ground.phase }], guard := none }) rfl (fun K hK => ?_) AllReadyH.nil
          go_simp
          refine hK.out _ _ ?_ (fun hHeld => ?_)
          · first
              | (have hXn := HX.out.but (but_set4 _ _ (.int .i64 A.x0) (.int .i64 A.y0) (.int .i64 A.x1) (.int .i64 A.y1)) HA.out.1; with_reducible exact ⟨hXn.b.c0, hXn.b.c1, hXn.b.c2, hXn.b.c3, hXn.b.c4, hXn.d.c0, hXn.d.c1, hXn.d.c2, hXn.d.c3⟩)
              | (have hXn := HXp.out.below ((Below.refl _ _).alloc (Nat.le_refl _) (.cells #[.int .i64 A.x0, .int .i64 A.y0, .int .i64 A.x1, .int .i64 A.y1] 23)); with_reducible exact ⟨hXn.b.c0, hXn.b.c1, hXn.b.c2, hXn.b.c3, hXn.b.c4, hXn.d.c0, hXn.d.c1, hXn.d.c2, hXn.d.c3⟩)
          clear hK K
          try simp only [Act.put, List.setIfInBounds_toArray, List.set_cons_zero, List.set_cons_succ]
          refine wpAnyH_done (by kernel_rfl) ?_ _
          go_wp2_with fail
          go_meet
          case rel =>
            first
              | with_reducible exact ⟨_, rfl, HX.out.but (but_set4 _ _ (.int .i64 A.x0) (.int .i64 A.y0) (.int .i64 A.x1) (.int .i64 A.y1)) HA.out.1, has4_set HA.out.2 (.int .i64 A.x0) (.int .i64 A.y0) (.int .i64 A.x1) (.int .i64 A.y1), HA.out.1⟩
              | with_reducible exact ⟨_, rfl, HXp.out.below ((Below.refl _ _).alloc (Nat.le_refl _) (.cells #[.int .i64 A.x0, .int .i64 A.y0, .int .i64 A.x1, .int .i64 A.y1] 23)), Rc.Has4.new rfl _ _ _ _ _, HXp.out.sz⟩
      · go_simp
        refine hK.out _ _ ?_ (fun hHeld => ?_)
        · have hXn := (sw_rect HX.out).1
          exact ⟨hXn.b.c0, hXn.b.c1, hXn.b.c2, hXn.b.c3, hXn.b.c4, hXn.d.c0, hXn.d.c1, hXn.d.c2, hXn.d.c3⟩
        clear hK K
        try simp only [Act.put, List.setIfInBounds_toArray, List.set_cons_zero, List.set_cons_succ]
        have HXp := HX
        have HA := hid (sw_rect HX.out).2
        replace HX := hid (sw_rect HX.out).1
        obtain ⟨y0, y1, y2, y3, yf⟩ := HA.out.2
        refine wpAnyH_ready (rs := [10]) (by kernel_rfl) (by simp) ?_
        refine AllReadyH.cons (o := { dst := some 29, op := Op.call { callee := Callee.value (Operand.func 43), args := #[Operand.tmp 26, Operand.tmp 27, Operand.tmp 28], argTypes := #[23, 3, 3] }, type := 23, pos := "move.go:45", after := #[{ on := 7, ground := Ground.data }, { on := 8, ground := Ground.data }, { on := 9, ground := Ground.data }, { on := 5, ground := Ground.chain }], guard := none }) rfl (fun K hK => ?_) AllReadyH.nil
        go_simp
        (go_at_call 43; with_reducible refine Calls.mono (Rc.move_any B.x0 B.y0 B.x1 B.y1 dx dy _ (ok_buf HB.out.2.1) HDX.out.1 HDX.out.2) ?_; rintro e wc ⟨rfl, hb⟩; rw [HMV.out]; replace HX := hid (HX.out.below hb); (try (replace HA := hid (And.intro HA.out.1 (HA.out.2.below hb)); clear y0 y1 y2 y3 yf; obtain ⟨y0, y1, y2, y3, yf⟩ := HA.out.2)); clear hb)
        go_wp2_with fail
        refine hK.out _ _ ?_ (fun hHeld => ?_)
        · exact ⟨HX.out.b.c0, HX.out.b.c1, HX.out.b.c2, HX.out.b.c3, HX.out.b.c4, HX.out.d.c0, HX.out.d.c1, HX.out.d.c2, HX.out.d.c3⟩
        clear hK K
        try simp only [Act.put, List.setIfInBounds_toArray, List.set_cons_zero, List.set_cons_succ]
        refine wpAnyH_ready (rs := [11]) (by kernel_rfl) (by simp) ?_
        refine AllReadyH.cons (o := { dst := some 30, op := Op.call { callee := Callee.value (Operand.func 42), args := #[Operand.tmp 24, Operand.tmp 29], argTypes := #[23, 23] }, type := 23, pos := "move.go:45", after := #[{ on := 5, ground := Ground.data }, { on := 10, ground := Ground.data }, { on := 10, ground := Ground.chain }], guard := none }) rfl (fun K hK => ?_) AllReadyH.nil
        go_simp
        (go_at_call 42; with_reducible refine Calls.mono (Rc.meet_any Gr.x0 Gr.y0 Gr.x1 Gr.y1 Mv.x0 Mv.y0 Mv.x1 Mv.y1 _) ?_; rintro e wc ⟨rfl, hb⟩; rw [HMM.out]; replace HX := hid (HX.out.below hb); (try (replace HA := hid (And.intro HA.out.1 (HA.out.2.below hb)); clear y0 y1 y2 y3 yf; obtain ⟨y0, y1, y2, y3, yf⟩ := HA.out.2)); clear hb)
        go_wp2_with fail
        refine hK.out _ _ ?_ (fun hHeld => ?_)
        · exact ⟨HX.out.b.c0, HX.out.b.c1, HX.out.b.c2, HX.out.b.c3, HX.out.b.c4, HX.out.d.c0, HX.out.d.c1, HX.out.d.c2, HX.out.d.c3⟩
        clear hK K
        try simp only [Act.put, List.setIfInBounds_toArray, List.set_cons_zero, List.set_cons_succ]
        refine wpAnyH_ready (rs := [13]) (by kernel_rfl) (by simp) ?_
        refine AllReadyH.cons (o := { dst := none, op := Op.store 23 (Operand.tmp 15) (Operand.tmp 30), type := 0, pos := "move.go:45", after := #[{ on := 12, ground := Ground.data }, { on := 11, ground := Ground.data }, { on := 11, ground := Ground.chain }, { on := 0, ground := Ground.phase }, { on := 1, ground := Ground.phase }, { on := 2, ground := Ground.phase }, { on := 3, ground := Ground.phase }, { on := 4, ground := Ground.phase }, { on := 5, ground := Ground.phase }, { on := 6, ground := Ground.phase }, { on := 7, ground := Ground.phase }, { on := 8, ground := Ground.phase }, { on := 9, ground := Ground.phase }, { on := 10, ground := Ground.phase }, { on := 11, ground := Ground.phase }, { on := 12, ground := Ground.phase }], guard := none }) rfl (fun K hK => ?_) AllReadyH.nil
        go_simp
        refine hK.out _ _ ?_ (fun hHeld => ?_)
        · first
            | (have hXn := HX.out.but (but_set4 _ _ (.int .i64 A.x0) (.int .i64 A.y0) (.int .i64 A.x1) (.int .i64 A.y1)) HA.out.1; with_reducible exact ⟨hXn.b.c0, hXn.b.c1, hXn.b.c2, hXn.b.c3, hXn.b.c4, hXn.d.c0, hXn.d.c1, hXn.d.c2, hXn.d.c3⟩)
            | (have hXn := HXp.out.below ((Below.refl _ _).alloc (Nat.le_refl _) (.cells #[.int .i64 A.x0, .int .i64 A.y0, .int .i64 A.x1, .int .i64 A.y1] 23)); with_reducible exact ⟨hXn.b.c0, hXn.b.c1, hXn.b.c2, hXn.b.c3, hXn.b.c4, hXn.d.c0, hXn.d.c1, hXn.d.c2, hXn.d.c3⟩)
        clear hK K
        try simp only [Act.put, List.setIfInBounds_toArray, List.set_cons_zero, List.set_cons_succ]
        refine wpAnyH_done (by kernel_rfl) ?_ _
        go_wp2_with fail
        go_meet
        case rel =>
          first
            | with_reducible exact ⟨_, rfl, HX.out.but (but_set4 _ _ (.int .i64 A.x0) (.int .i64 A.y0) (.int .i64 A.x1) (.int .i64 A.y1)) HA.out.1, has4_set HA.out.2 (.int .i64 A.x0) (.int .i64 A.y0) (.int .i64 A.x1) (.int .i64 A.y1), HA.out.1⟩
            | with_reducible exact ⟨_, rfl, HXp.out.below ((Below.refl _ _).alloc (Nat.le_refl _) (.cells #[.int .i64 A.x0, .int .i64 A.y0, .int .i64 A.x1, .int .i64 A.y1] 23)), Rc.Has4.new rfl _ _ _ _ _, HXp.out.sz⟩
    · go_simp
      refine hK.out _ _ ?_ (fun hHeld => ?_)
      · have hXn := (sw_rect HX.out).1
        exact ⟨hXn.b.c0, hXn.b.c1, hXn.b.c2, hXn.b.c3, hXn.b.c4, hXn.d.c0, hXn.d.c1, hXn.d.c2, hXn.d.c3⟩
      clear hK K
      try simp only [Act.put, List.setIfInBounds_toArray, List.set_cons_zero, List.set_cons_succ]
      have HXp := HX
      have HA := hid (sw_rect HX.out).2
      replace HX := hid (sw_rect HX.out).1
      obtain ⟨y0, y1, y2, y3, yf⟩ := HA.out.2
      refine wpAnyH_ready (rs := [5]) (by kernel_rfl) (by simp) ?_
      refine AllReadyH.cons (o := { dst := some 24, op := Op.call { callee := Callee.value (Operand.func 54), args := #[Operand.tmp 19, Operand.tmp 20, Operand.tmp 21, Operand.tmp 22, Operand.tmp 23], argTypes := #[23, 3, 3, 3, 3] }, type := 23, pos := "move.go:45", after := #[{ on := 0, ground := Ground.data }, { on := 1, ground := Ground.data }, { on := 2, ground := Ground.data }, { on := 3, ground := Ground.data }, { on := 4, ground := Ground.data }], guard := none }) rfl (fun K hK => ?_) AllReadyH.nil
      go_simp
      (go_at_call 54; with_reducible refine Calls.mono (Rc.grow_any D.x0 D.y0 D.x1 D.y1 (rx : Int) (ry : Int) (rx : Int) (ry : Int) _ HD.out.1.ok HC.out.1 HC.out.2 HC.out.1 HC.out.2) ?_; rintro e wc ⟨rfl, hb⟩; rw [HGR.out]; replace HX := hid (HX.out.below hb); (try (replace HA := hid (And.intro HA.out.1 (HA.out.2.below hb)); clear y0 y1 y2 y3 yf; obtain ⟨y0, y1, y2, y3, yf⟩ := HA.out.2)); clear hb)
      go_wp2_with fail
      refine hK.out _ _ ?_ (fun hHeld => ?_)
      · exact ⟨HX.out.b.c0, HX.out.b.c1, HX.out.b.c2, HX.out.b.c3, HX.out.b.c4, HX.out.d.c0, HX.out.d.c1, HX.out.d.c2, HX.out.d.c3⟩
      clear hK K
      try simp only [Act.put, List.setIfInBounds_toArray, List.set_cons_zero, List.set_cons_succ]
      refine wpAnyH_ready (rs := [10]) (by kernel_rfl) (by simp) ?_
      refine AllReadyH.cons (o := { dst := some 29, op := Op.call { callee := Callee.value (Operand.func 43), args := #[Operand.tmp 26, Operand.tmp 27, Operand.tmp 28], argTypes := #[23, 3, 3] }, type := 23, pos := "move.go:45", after := #[{ on := 7, ground := Ground.data }, { on := 8, ground := Ground.data }, { on := 9, ground := Ground.data }, { on := 5, ground := Ground.chain }], guard := none }) rfl (fun K hK => ?_) AllReadyH.nil
      go_simp
      (go_at_call 43; with_reducible refine Calls.mono (Rc.move_any B.x0 B.y0 B.x1 B.y1 dx dy _ (ok_buf HB.out.2.1) HDX.out.1 HDX.out.2) ?_; rintro e wc ⟨rfl, hb⟩; rw [HMV.out]; replace HX := hid (HX.out.below hb); (try (replace HA := hid (And.intro HA.out.1 (HA.out.2.below hb)); clear y0 y1 y2 y3 yf; obtain ⟨y0, y1, y2, y3, yf⟩ := HA.out.2)); clear hb)
      go_wp2_with fail
      refine hK.out _ _ ?_ (fun hHeld => ?_)
      · exact ⟨HX.out.b.c0, HX.out.b.c1, HX.out.b.c2, HX.out.b.c3, HX.out.b.c4, HX.out.d.c0, HX.out.d.c1, HX.out.d.c2, HX.out.d.c3⟩
      clear hK K
      try simp only [Act.put, List.setIfInBounds_toArray, List.set_cons_zero, List.set_cons_succ]
      refine wpAnyH_ready (rs := [11]) (by kernel_rfl) (by simp) ?_
      refine AllReadyH.cons (o := { dst := some 30, op := Op.call { callee := Callee.value (Operand.func 42), args := #[Operand.tmp 24, Operand.tmp 29], argTypes := #[23, 23] }, type := 23, pos := "move.go:45", after := #[{ on := 5, ground := Ground.data }, { on := 10, ground := Ground.data }, { on := 10, ground := Ground.chain }], guard := none }) rfl (fun K hK => ?_) AllReadyH.nil
      go_simp
      (go_at_call 42; with_reducible refine Calls.mono (Rc.meet_any Gr.x0 Gr.y0 Gr.x1 Gr.y1 Mv.x0 Mv.y0 Mv.x1 Mv.y1 _) ?_; rintro e wc ⟨rfl, hb⟩; rw [HMM.out]; replace HX := hid (HX.out.below hb); (try (replace HA := hid (And.intro HA.out.1 (HA.out.2.below hb)); clear y0 y1 y2 y3 yf; obtain ⟨y0, y1, y2, y3, yf⟩ := HA.out.2)); clear hb)
      go_wp2_with fail
      refine hK.out _ _ ?_ (fun hHeld => ?_)
      · exact ⟨HX.out.b.c0, HX.out.b.c1, HX.out.b.c2, HX.out.b.c3, HX.out.b.c4, HX.out.d.c0, HX.out.d.c1, HX.out.d.c2, HX.out.d.c3⟩
      clear hK K
      try simp only [Act.put, List.setIfInBounds_toArray, List.set_cons_zero, List.set_cons_succ]
      refine wpAnyH_ready (rs := [13]) (by kernel_rfl) (by simp) ?_
      refine AllReadyH.cons (o := { dst := none, op := Op.store 23 (Operand.tmp 15) (Operand.tmp 30), type := 0, pos := "move.go:45", after := #[{ on := 12, ground := Ground.data }, { on := 11, ground := Ground.data }, { on := 11, ground := Ground.chain }, { on := 0, ground := Ground.phase }, { on := 1, ground := Ground.phase }, { on := 2, ground := Ground.phase }, { on := 3, ground := Ground.phase }, { on := 4, ground := Ground.phase }, { on := 5, ground := Ground.phase }, { on := 6, ground := Ground.phase }, { on := 7, ground := Ground.phase }, { on := 8, ground := Ground.phase }, { on := 9, ground := Ground.phase }, { on := 10, ground := Ground.phase }, { on := 11, ground := Ground.phase }, { on := 12, ground := Ground.phase }], guard := none }) rfl (fun K hK => ?_) AllReadyH.nil
      go_simp
      refine hK.out _ _ ?_ (fun hHeld => ?_)
      · first
          | (have hXn := HX.out.but (but_set4 _ _ (.int .i64 A.x0) (.int .i64 A.y0) (.int .i64 A.x1) (.int .i64 A.y1)) HA.out.1; with_reducible exact ⟨hXn.b.c0, hXn.b.c1, hXn.b.c2, hXn.b.c3, hXn.b.c4, hXn.d.c0, hXn.d.c1, hXn.d.c2, hXn.d.c3⟩)
          | (have hXn := HXp.out.below ((Below.refl _ _).alloc (Nat.le_refl _) (.cells #[.int .i64 A.x0, .int .i64 A.y0, .int .i64 A.x1, .int .i64 A.y1] 23)); with_reducible exact ⟨hXn.b.c0, hXn.b.c1, hXn.b.c2, hXn.b.c3, hXn.b.c4, hXn.d.c0, hXn.d.c1, hXn.d.c2, hXn.d.c3⟩)
      clear hK K
      try simp only [Act.put, List.setIfInBounds_toArray, List.set_cons_zero, List.set_cons_succ]
      refine wpAnyH_done (by kernel_rfl) ?_ _
      go_wp2_with fail
      go_meet
      case rel =>
        first
          | with_reducible exact ⟨_, rfl, HX.out.but (but_set4 _ _ (.int .i64 A.x0) (.int .i64 A.y0) (.int .i64 A.x1) (.int .i64 A.y1)) HA.out.1, has4_set HA.out.2 (.int .i64 A.x0) (.int .i64 A.y0) (.int .i64 A.x1) (.int .i64 A.y1), HA.out.1⟩
          | with_reducible exact ⟨_, rfl, HXp.out.below ((Below.refl _ _).alloc (Nat.le_refl _) (.cells #[.int .i64 A.x0, .int .i64 A.y0, .int .i64 A.x1, .int .i64 A.y1] 23)), Rc.Has4.new rfl _ _ _ _ _, HXp.out.sz⟩
  case rest =>
    obtain ⟨ka, rfl, hX⟩ := hcut
    obtain ⟨w3, rfl⟩ : ∃ w3, w3 = wc := ⟨_, rfl⟩
    replace HX := hid hX
    clear hX
    go_wp2
    go_cut [16] (fun v16 wx => ∃ k16 eo en em eg eoff, v16 = .pointer (some ⟨k16, 0, none⟩) ∧ Sw w B D p ao n m wx ∧ Has5 wx k16 (orN D) eo en em ∧ Ox (w.heap.size + 1 + 1 + 1 + 1) wx eo en em eg eoff (img (orN D) (softX B f dx dy rx ry)) ∧ (w.heap.size + 1 + 1 + 1 + 1) ≤ k16 ∧ (0 < em → k16 ≠ eg))
    case first =>
      replace HX := hid (HX.out.below (Below.refl _ _).drew)
      refine wp_region_held_drew (S := (fun w' => w'.cell? ⟨w.heap.size, 0, none⟩ = some (.int .i64 B.x0) ∧ w'.cell? ⟨w.heap.size, 1, none⟩ = some (.int .i64 B.y0) ∧ w'.cell? ⟨w.heap.size, 2, none⟩ = some (.int .i64 B.x1) ∧ w'.cell? ⟨w.heap.size, 3, none⟩ = some (.int .i64 B.y1) ∧ w'.cell? ⟨w.heap.size, 4, none⟩ = some (.slice ao n m) ∧ w'.cell? ⟨(w.heap.size + 1), 0, none⟩ = some (.int .i64 D.x0) ∧ w'.cell? ⟨(w.heap.size + 1), 1, none⟩ = some (.int .i64 D.y0) ∧ w'.cell? ⟨(w.heap.size + 1), 2, none⟩ = some (.int .i64 D.x1) ∧ w'.cell? ⟨(w.heap.size + 1), 3, none⟩ = some (.int .i64 D.y1) ∧ w'.cell? ⟨ka, 0, none⟩ = some (.int .i64 A.x0) ∧ w'.cell? ⟨ka, 1, none⟩ = some (.int .i64 A.y0) ∧ w'.cell? ⟨ka, 2, none⟩ = some (.int .i64 A.x1) ∧ w'.cell? ⟨ka, 3, none⟩ = some (.int .i64 A.y1))) (by kernel_rfl) ?_ (fun hHeld => ?_)
      · exact ⟨HX.out.x.b.c0, HX.out.x.b.c1, HX.out.x.b.c2, HX.out.x.b.c3, HX.out.x.b.c4, HX.out.x.d.c0, HX.out.x.d.c1, HX.out.x.d.c2, HX.out.x.d.c3, HX.out.a.c0, HX.out.a.c1, HX.out.a.c2, HX.out.a.c3⟩
      generalize w3.drew = wd at HX hHeld ⊢
      refine wpAnyH_take (i := 0) (oi := { dst := some 31, op := Op.load 26 (Operand.tmp 7), type := 26, pos := "move.go:46", after := #[], guard := none }) (v := ?_) rfl (by kernel_rfl) (by kernel_rfl) (by kernel_rfl) (fun _ _ _ h => h) (Or.inl ⟨by rfl, ?hy⟩) (by assumption) ?_
      case hy => (intro w hSw; (try dsimp only at hSw); go_simp; first | done | with_reducible rfl)
      try simp only [Act.put, List.setIfInBounds_toArray, List.set_cons_zero, List.set_cons_succ]
      refine wpAnyH_take (i := 1) (oi := { dst := some 32, op := Op.load 23 (Operand.tmp 15), type := 23, pos := "move.go:46", after := #[], guard := none }) (v := ?_) rfl (by kernel_rfl) (by kernel_rfl) (by kernel_rfl) (fun _ _ _ h => h) (Or.inl ⟨by rfl, ?hy⟩) (by assumption) ?_
      case hy => (intro w hSw; (try dsimp only at hSw); go_simp; first | done | with_reducible rfl)
      try simp only [Act.put, List.setIfInBounds_toArray, List.set_cons_zero, List.set_cons_succ]
      refine wpAnyH_take (i := 2) (oi := { dst := some 33, op := Op.move (Operand.tmp 2), type := 3, pos := "move.go:46", after := #[], guard := none }) (v := ?_) rfl (by kernel_rfl) (by kernel_rfl) (by kernel_rfl) (fun _ _ _ h => h) (Or.inl ⟨by rfl, ?hy⟩) (by assumption) ?_
      case hy => (intro w hSw; (try dsimp only at hSw); go_simp; first | done | with_reducible rfl)
      try simp only [Act.put, List.setIfInBounds_toArray, List.set_cons_zero, List.set_cons_succ]
      refine wpAnyH_take (i := 3) (oi := { dst := some 34, op := Op.move (Operand.tmp 3), type := 3, pos := "move.go:46", after := #[], guard := none }) (v := ?_) rfl (by kernel_rfl) (by kernel_rfl) (by kernel_rfl) (fun _ _ _ h => h) (Or.inl ⟨by rfl, ?hy⟩) (by assumption) ?_
      case hy => (intro w hSw; (try dsimp only at hSw); go_simp; first | done | with_reducible rfl)
      try simp only [Act.put, List.setIfInBounds_toArray, List.set_cons_zero, List.set_cons_succ]
      refine wpAnyH_take (i := 5) (oi := { dst := some 36, op := Op.load 23 (Operand.tmp 8), type := 23, pos := "move.go:46", after := #[], guard := none }) (v := ?_) rfl (by kernel_rfl) (by kernel_rfl) (by kernel_rfl) (fun _ _ _ h => h) (Or.inl ⟨by rfl, ?hy⟩) (by assumption) ?_
      case hy => (intro w hSw; (try dsimp only at hSw); go_simp; first | done | with_reducible rfl)
      try simp only [Act.put, List.setIfInBounds_toArray, List.set_cons_zero, List.set_cons_succ]
      refine wpAnyH_take (i := 6) (oi := { dst := some 37, op := Op.move (Operand.tmp 4), type := 3, pos := "move.go:46", after := #[], guard := none }) (v := ?_) rfl (by kernel_rfl) (by kernel_rfl) (by kernel_rfl) (fun _ _ _ h => h) (Or.inl ⟨by rfl, ?hy⟩) (by assumption) ?_
      case hy => (intro w hSw; (try dsimp only at hSw); go_simp; first | done | with_reducible rfl)
      try simp only [Act.put, List.setIfInBounds_toArray, List.set_cons_zero, List.set_cons_succ]
      refine wpAnyH_take (i := 7) (oi := { dst := some 38, op := Op.move (Operand.tmp 5), type := 3, pos := "move.go:46", after := #[], guard := none }) (v := ?_) rfl (by kernel_rfl) (by kernel_rfl) (by kernel_rfl) (fun _ _ _ h => h) (Or.inl ⟨by rfl, ?hy⟩) (by assumption) ?_
      case hy => (intro w hSw; (try dsimp only at hSw); go_simp; first | done | with_reducible rfl)
      try simp only [Act.put, List.setIfInBounds_toArray, List.set_cons_zero, List.set_cons_succ]
      refine wpAnyH_ready (rs := [4, 9]) (by kernel_rfl) (by simp) ?_
      refine AllReadyH.cons (o := { dst := some 35, op := Op.call { callee := Callee.value (Operand.func 20), args := #[Operand.tmp 31, Operand.tmp 32, Operand.tmp 33, Operand.tmp 34], argTypes := #[26, 23, 3, 3] }, type := 26, pos := "move.go:46", after := #[{ on := 0, ground := Ground.data }, { on := 1, ground := Ground.data }, { on := 2, ground := Ground.data }, { on := 3, ground := Ground.data }], guard := none }) rfl (fun K hK => ?_) (AllReadyH.cons (o := { dst := some 16, op := Op.alloc 26, type := 0, pos := "move.go:46", after := #[], guard := none }) rfl (fun K hK => ?_) AllReadyH.nil)
      · go_simp
        (go_at_call 20; with_reducible refine Calls.mono (offset_any B ao n m g off f A dx dy _ HB.out.1 HB.out.2.1 (HV.out.below HX.out.x.low) HAO.out.1 HAO.out.2.1 HDX.out.1 HDX.out.2) ?_; rintro e wc ⟨hr, hb⟩; obtain ⟨co, cn, cm, cg, coff, rfl, hO, hg1, hg2, hln⟩ := retG hr; rw [img_len] at hln; have HVc := hid hO.v; have HLc : Hid (bufB (orN A) cn = true ∧ cn ≤ 5000) := (by rw [← hln]; exact hid HAO.out.2.2); (try (replace HA := hid (And.intro HA.out.1 (And.intro (HA.out.2.1.below hb) HA.out.2.2)); clear y0 y1 y2 y3 y4 yf; obtain ⟨y0, y1, y2, y3, y4, yf⟩ := HA.out.2.1)); replace HX := hid (HX.out.below hb); clear hr hO hg1 hg2 hln hb)
        go_wp2_with fail
        refine hK.out _ _ ?_ (fun hHeld => ?_)
        · exact ⟨HX.out.x.b.c0, HX.out.x.b.c1, HX.out.x.b.c2, HX.out.x.b.c3, HX.out.x.b.c4, HX.out.x.d.c0, HX.out.x.d.c1, HX.out.x.d.c2, HX.out.x.d.c3, HX.out.a.c0, HX.out.a.c1, HX.out.a.c2, HX.out.a.c3⟩
        clear hK K
        try simp only [Act.put, List.setIfInBounds_toArray, List.set_cons_zero, List.set_cons_succ]
        refine wpAnyH_ready (rs := [8, 9]) (by kernel_rfl) (by simp) ?_
        refine AllReadyH.cons (o := { dst := some 39, op := Op.call { callee := Callee.value (Operand.func 55), args := #[Operand.tmp 35, Operand.tmp 36, Operand.tmp 37, Operand.tmp 38], argTypes := #[26, 23, 3, 3] }, type := 26, pos := "move.go:46", after := #[{ on := 4, ground := Ground.data }, { on := 5, ground := Ground.data }, { on := 6, ground := Ground.data }, { on := 7, ground := Ground.data }, { on := 4, ground := Ground.chain }], guard := none }) rfl (fun K hK => ?_) (AllReadyH.cons (o := { dst := some 16, op := Op.alloc 26, type := 0, pos := "move.go:46", after := #[], guard := none }) rfl (fun K hK => ?_) AllReadyH.nil)
        · go_simp
          (go_at_call 55; with_reducible refine Calls.mono (box_any (orN A) co cn cm cg coff (fun x y => atX B f (x - dx) (y - dy)) D rx ry _ HLc.out.1 HLc.out.2 HVc.out HBY.out HD.out.1 HD.out.2.1 HD.out.2.2.1 HD.out.2.2.2) ?_; rintro e wc ⟨hr, hb⟩; rw [HS.out] at hr; obtain ⟨eo, en, em, eg, eoff, rfl, hO, hg1, hg2, hln⟩ := retG hr; have HE := hid (And.intro (hO.mono HX.out.x.sz) hg2); (try (have HNE := hid (fun (_ : 0 < em) => ne_pre HA.out.2.1 hg1))); (try (replace HA := hid (And.intro HA.out.1 (And.intro (HA.out.2.1.below hb) HA.out.2.2)); clear y0 y1 y2 y3 y4 yf; obtain ⟨y0, y1, y2, y3, y4, yf⟩ := HA.out.2.1)); replace HX := hid (HX.out.below hb); clear hr hO hg1 hg2 hln hb)
          go_wp2_with fail
          refine hK.out _ _ ?_ (fun hHeld => ?_)
          · exact ⟨HX.out.x.b.c0, HX.out.x.b.c1, HX.out.x.b.c2, HX.out.x.b.c3, HX.out.x.b.c4, HX.out.x.d.c0, HX.out.x.d.c1, HX.out.x.d.c2, HX.out.x.d.c3, HX.out.a.c0, HX.out.a.c1, HX.out.a.c2, HX.out.a.c3⟩
          clear hK K
          try simp only [Act.put, List.setIfInBounds_toArray, List.set_cons_zero, List.set_cons_succ]
          refine wpAnyH_ready (rs := [9]) (by kernel_rfl) (by simp) ?_
          refine AllReadyH.cons (o := { dst := some 16, op := Op.alloc 26, type := 0, pos := "move.go:46", after := #[], guard := none }) rfl (fun K hK => ?_) AllReadyH.nil
          go_simp
          refine hK.out _ _ ?_ (fun hHeld => ?_)
          · have hXn := (sy_buf HX.out).1
            exact ⟨hXn.x.b.c0, hXn.x.b.c1, hXn.x.b.c2, hXn.x.b.c3, hXn.x.b.c4, hXn.x.d.c0, hXn.x.d.c1, hXn.x.d.c2, hXn.x.d.c3, hXn.a.c0, hXn.a.c1, hXn.a.c2, hXn.a.c3⟩
          clear hK K
          try simp only [Act.put, List.setIfInBounds_toArray, List.set_cons_zero, List.set_cons_succ]
          have HXp := HX
          try have HEp := HE
          have HA := hid (sy_buf HX.out).2
          replace HX := hid (sy_buf HX.out).1
          obtain ⟨y0, y1, y2, y3, y4, yf⟩ := HA.out.2.1
          try replace HVc := hid (HVc.out.below ((Below.refl _ _).alloc (Nat.le_refl _) (.cells #[.int .i64 0, .int .i64 0, .int .i64 0, .int .i64 0, .slice none 0 0] 26)))
          try (have HNE := hid (fun (h : 0 < em) => Nat.ne_of_gt (HE.out.2 h)); replace HE := hid (And.intro (HE.out.1.below ((Below.refl _ _).alloc (Nat.le_refl _) (.cells #[.int .i64 0, .int .i64 0, .int .i64 0, .int .i64 0, .slice none 0 0] 26))) trivial))
          refine wpAnyH_ready (rs := [10]) (by kernel_rfl) (by simp) ?_
          refine AllReadyH.cons (o := { dst := none, op := Op.store 26 (Operand.tmp 16) (Operand.tmp 39), type := 0, pos := "move.go:46", after := #[{ on := 9, ground := Ground.data }, { on := 8, ground := Ground.data }, { on := 8, ground := Ground.chain }, { on := 0, ground := Ground.phase }, { on := 1, ground := Ground.phase }, { on := 2, ground := Ground.phase }, { on := 3, ground := Ground.phase }, { on := 4, ground := Ground.phase }, { on := 5, ground := Ground.phase }, { on := 6, ground := Ground.phase }, { on := 7, ground := Ground.phase }, { on := 8, ground := Ground.phase }, { on := 9, ground := Ground.phase }], guard := none }) rfl (fun K hK => ?_) AllReadyH.nil
          go_simp
          refine hK.out _ _ ?_ (fun hHeld => ?_)
          · first
              | (have hXn := HX.out.but (but_set5 _ _ (.int .i64 (orN D).x0) (.int .i64 (orN D).y0) (.int .i64 (orN D).x1) (.int .i64 (orN D).y1) (.slice eo en em)) HA.out.1 HA.out.2.2; with_reducible exact ⟨hXn.x.b.c0, hXn.x.b.c1, hXn.x.b.c2, hXn.x.b.c3, hXn.x.b.c4, hXn.x.d.c0, hXn.x.d.c1, hXn.x.d.c2, hXn.x.d.c3, hXn.a.c0, hXn.a.c1, hXn.a.c2, hXn.a.c3⟩)
              | (have hXn := HXp.out.below ((Below.refl _ _).alloc (Nat.le_refl _) (.cells #[.int .i64 (orN D).x0, .int .i64 (orN D).y0, .int .i64 (orN D).x1, .int .i64 (orN D).y1, .slice eo en em] 26)); with_reducible exact ⟨hXn.x.b.c0, hXn.x.b.c1, hXn.x.b.c2, hXn.x.b.c3, hXn.x.b.c4, hXn.x.d.c0, hXn.x.d.c1, hXn.x.d.c2, hXn.x.d.c3, hXn.a.c0, hXn.a.c1, hXn.a.c2, hXn.a.c3⟩)
          clear hK K
          try simp only [Act.put, List.setIfInBounds_toArray, List.set_cons_zero, List.set_cons_succ]
          refine wpAnyH_done (by kernel_rfl) ?_ _
          go_wp2_with fail
          go_meet
          case rel =>
            first
              | with_reducible exact ⟨_, eo, en, em, eg, eoff, rfl, (HX.out.but (but_set5 _ _ (.int .i64 (orN D).x0) (.int .i64 (orN D).y0) (.int .i64 (orN D).x1) (.int .i64 (orN D).y1) (.slice eo en em)) HA.out.1 HA.out.2.2).x, has5_set HA.out.2.1 (orN D).x0 (orN D).y0 (orN D).x1 (orN D).y1 eo en em, HE.out.1.but (but_set5 _ _ (.int .i64 (orN D).x0) (.int .i64 (orN D).y0) (.int .i64 (orN D).x1) (.int .i64 (orN D).y1) (.slice eo en em)) (fun h => Ne.symm (HNE.out h)), HA.out.1, HNE.out⟩
              | with_reducible exact ⟨_, eo, en, em, eg, eoff, rfl, (HXp.out.below ((Below.refl _ _).alloc (Nat.le_refl _) (.cells #[.int .i64 (orN D).x0, .int .i64 (orN D).y0, .int .i64 (orN D).x1, .int .i64 (orN D).y1, .slice eo en em] 26))).x, Has5.new rfl _ _ _ _ _ _ _ _, HEp.out.1.below ((Below.refl _ _).alloc (Nat.le_refl _) (.cells #[.int .i64 (orN D).x0, .int .i64 (orN D).y0, .int .i64 (orN D).x1, .int .i64 (orN D).y1, .slice eo en em] 26)), HXp.out.x.sz, HNE.out⟩
        · go_simp
          refine hK.out _ _ ?_ (fun hHeld => ?_)
          · have hXn := (sy_buf HX.out).1
            exact ⟨hXn.x.b.c0, hXn.x.b.c1, hXn.x.b.c2, hXn.x.b.c3, hXn.x.b.c4, hXn.x.d.c0, hXn.x.d.c1, hXn.x.d.c2, hXn.x.d.c3, hXn.a.c0, hXn.a.c1, hXn.a.c2, hXn.a.c3⟩
          clear hK K
          try simp only [Act.put, List.setIfInBounds_toArray, List.set_cons_zero, List.set_cons_succ]
          have HXp := HX
          try have HEp := HE
          have HA := hid (sy_buf HX.out).2
          replace HX := hid (sy_buf HX.out).1
          obtain ⟨y0, y1, y2, y3, y4, yf⟩ := HA.out.2.1
          try replace HVc := hid (HVc.out.below ((Below.refl _ _).alloc (Nat.le_refl _) (.cells #[.int .i64 0, .int .i64 0, .int .i64 0, .int .i64 0, .slice none 0 0] 26)))
          try (have HNE := hid (fun (h : 0 < em) => Nat.ne_of_gt (HE.out.2 h)); replace HE := hid (And.intro (HE.out.1.below ((Below.refl _ _).alloc (Nat.le_refl _) (.cells #[.int .i64 0, .int .i64 0, .int .i64 0, .int .i64 0, .slice none 0 0] 26))) trivial))
          refine wpAnyH_ready (rs := [8]) (by kernel_rfl) (by simp) ?_
          refine AllReadyH.cons (o := { dst := some 39, op := Op.call { callee := Callee.value (Operand.func 55), args := #[Operand.tmp 35, Operand.tmp 36, Operand.tmp 37, Operand.tmp 38], argTypes := #[26, 23, 3, 3] }, type := 26, pos := "move.go:46", after := #[{ on := 4, ground := Ground.data }, { on := 5, ground := Ground.data }, { on := 6, ground := Ground.data }, { on := 7, ground := Ground.data }, { on := 4, ground := Ground.chain }], guard := none }) rfl (fun K hK => ?_) AllReadyH.nil
          go_simp
          (go_at_call 55; with_reducible refine Calls.mono (box_any (orN A) co cn cm cg coff (fun x y => atX B f (x - dx) (y - dy)) D rx ry _ HLc.out.1 HLc.out.2 HVc.out HBY.out HD.out.1 HD.out.2.1 HD.out.2.2.1 HD.out.2.2.2) ?_; rintro e wc ⟨hr, hb⟩; rw [HS.out] at hr; obtain ⟨eo, en, em, eg, eoff, rfl, hO, hg1, hg2, hln⟩ := retG hr; have HE := hid (And.intro (hO.mono HX.out.x.sz) hg2); (try (have HNE := hid (fun (_ : 0 < em) => ne_pre HA.out.2.1 hg1))); (try (replace HA := hid (And.intro HA.out.1 (And.intro (HA.out.2.1.below hb) HA.out.2.2)); clear y0 y1 y2 y3 y4 yf; obtain ⟨y0, y1, y2, y3, y4, yf⟩ := HA.out.2.1)); replace HX := hid (HX.out.below hb); clear hr hO hg1 hg2 hln hb)
          go_wp2_with fail
          refine hK.out _ _ ?_ (fun hHeld => ?_)
          · exact ⟨HX.out.x.b.c0, HX.out.x.b.c1, HX.out.x.b.c2, HX.out.x.b.c3, HX.out.x.b.c4, HX.out.x.d.c0, HX.out.x.d.c1, HX.out.x.d.c2, HX.out.x.d.c3, HX.out.a.c0, HX.out.a.c1, HX.out.a.c2, HX.out.a.c3⟩
          clear hK K
          try simp only [Act.put, List.setIfInBounds_toArray, List.set_cons_zero, List.set_cons_succ]
          refine wpAnyH_ready (rs := [10]) (by kernel_rfl) (by simp) ?_
          refine AllReadyH.cons (o := { dst := none, op := Op.store 26 (Operand.tmp 16) (Operand.tmp 39), type := 0, pos := "move.go:46", after := #[{ on := 9, ground := Ground.data }, { on := 8, ground := Ground.data }, { on := 8, ground := Ground.chain }, { on := 0, ground := Ground.phase }, { on := 1, ground := Ground.phase }, { on := 2, ground := Ground.phase }, { on := 3, ground := Ground.phase }, { on := 4, ground := Ground.phase }, { on := 5, ground := Ground.phase }, { on := 6, ground := Ground.phase }, { on := 7, ground := Ground.phase }, { on := 8, ground := Ground.phase }, { on := 9, ground := Ground.phase }], guard := none }) rfl (fun K hK => ?_) AllReadyH.nil
          go_simp
          refine hK.out _ _ ?_ (fun hHeld => ?_)
          · first
              | (have hXn := HX.out.but (but_set5 _ _ (.int .i64 (orN D).x0) (.int .i64 (orN D).y0) (.int .i64 (orN D).x1) (.int .i64 (orN D).y1) (.slice eo en em)) HA.out.1 HA.out.2.2; with_reducible exact ⟨hXn.x.b.c0, hXn.x.b.c1, hXn.x.b.c2, hXn.x.b.c3, hXn.x.b.c4, hXn.x.d.c0, hXn.x.d.c1, hXn.x.d.c2, hXn.x.d.c3, hXn.a.c0, hXn.a.c1, hXn.a.c2, hXn.a.c3⟩)
              | (have hXn := HXp.out.below ((Below.refl _ _).alloc (Nat.le_refl _) (.cells #[.int .i64 (orN D).x0, .int .i64 (orN D).y0, .int .i64 (orN D).x1, .int .i64 (orN D).y1, .slice eo en em] 26)); with_reducible exact ⟨hXn.x.b.c0, hXn.x.b.c1, hXn.x.b.c2, hXn.x.b.c3, hXn.x.b.c4, hXn.x.d.c0, hXn.x.d.c1, hXn.x.d.c2, hXn.x.d.c3, hXn.a.c0, hXn.a.c1, hXn.a.c2, hXn.a.c3⟩)
          clear hK K
          try simp only [Act.put, List.setIfInBounds_toArray, List.set_cons_zero, List.set_cons_succ]
          refine wpAnyH_done (by kernel_rfl) ?_ _
          go_wp2_with fail
          go_meet
          case rel =>
            first
              | with_reducible exact ⟨_, eo, en, em, eg, eoff, rfl, (HX.out.but (but_set5 _ _ (.int .i64 (orN D).x0) (.int .i64 (orN D).y0) (.int .i64 (orN D).x1) (.int .i64 (orN D).y1) (.slice eo en em)) HA.out.1 HA.out.2.2).x, has5_set HA.out.2.1 (orN D).x0 (orN D).y0 (orN D).x1 (orN D).y1 eo en em, HE.out.1.but (but_set5 _ _ (.int .i64 (orN D).x0) (.int .i64 (orN D).y0) (.int .i64 (orN D).x1) (.int .i64 (orN D).y1) (.slice eo en em)) (fun h => Ne.symm (HNE.out h)), HA.out.1, HNE.out⟩
              | with_reducible exact ⟨_, eo, en, em, eg, eoff, rfl, (HXp.out.below ((Below.refl _ _).alloc (Nat.le_refl _) (.cells #[.int .i64 (orN D).x0, .int .i64 (orN D).y0, .int .i64 (orN D).x1, .int .i64 (orN D).y1, .slice eo en em] 26))).x, Has5.new rfl _ _ _ _ _ _ _ _, HEp.out.1.below ((Below.refl _ _).alloc (Nat.le_refl _) (.cells #[.int .i64 (orN D).x0, .int .i64 (orN D).y0, .int .i64 (orN D).x1, .int .i64 (orN D).y1, .slice eo en em] 26)), HXp.out.x.sz, HNE.out⟩
      · go_simp
        refine hK.out _ _ ?_ (fun hHeld => ?_)
        · have hXn := (sy_buf HX.out).1
          exact ⟨hXn.x.b.c0, hXn.x.b.c1, hXn.x.b.c2, hXn.x.b.c3, hXn.x.b.c4, hXn.x.d.c0, hXn.x.d.c1, hXn.x.d.c2, hXn.x.d.c3, hXn.a.c0, hXn.a.c1, hXn.a.c2, hXn.a.c3⟩
        clear hK K
        try simp only [Act.put, List.setIfInBounds_toArray, List.set_cons_zero, List.set_cons_succ]
        have HXp := HX
        try have HEp := HE
        have HA := hid (sy_buf HX.out).2
        replace HX := hid (sy_buf HX.out).1
        obtain ⟨y0, y1, y2, y3, y4, yf⟩ := HA.out.2.1
        try replace HVc := hid (HVc.out.below ((Below.refl _ _).alloc (Nat.le_refl _) (.cells #[.int .i64 0, .int .i64 0, .int .i64 0, .int .i64 0, .slice none 0 0] 26)))
        try (have HNE := hid (fun (h : 0 < em) => Nat.ne_of_gt (HE.out.2 h)); replace HE := hid (And.intro (HE.out.1.below ((Below.refl _ _).alloc (Nat.le_refl _) (.cells #[.int .i64 0, .int .i64 0, .int .i64 0, .int .i64 0, .slice none 0 0] 26))) trivial))
        refine wpAnyH_ready (rs := [4]) (by kernel_rfl) (by simp) ?_
        refine AllReadyH.cons (o := { dst := some 35, op := Op.call { callee := Callee.value (Operand.func 20), args := #[Operand.tmp 31, Operand.tmp 32, Operand.tmp 33, Operand.tmp 34], argTypes := #[26, 23, 3, 3] }, type := 26, pos := "move.go:46", after := #[{ on := 0, ground := Ground.data }, { on := 1, ground := Ground.data }, { on := 2, ground := Ground.data }, { on := 3, ground := Ground.data }], guard := none }) rfl (fun K hK => ?_) AllReadyH.nil
        go_simp
        (go_at_call 20; with_reducible refine Calls.mono (offset_any B ao n m g off f A dx dy _ HB.out.1 HB.out.2.1 (HV.out.below HX.out.x.low) HAO.out.1 HAO.out.2.1 HDX.out.1 HDX.out.2) ?_; rintro e wc ⟨hr, hb⟩; obtain ⟨co, cn, cm, cg, coff, rfl, hO, hg1, hg2, hln⟩ := retG hr; rw [img_len] at hln; have HVc := hid hO.v; have HLc : Hid (bufB (orN A) cn = true ∧ cn ≤ 5000) := (by rw [← hln]; exact hid HAO.out.2.2); (try (replace HA := hid (And.intro HA.out.1 (And.intro (HA.out.2.1.below hb) HA.out.2.2)); clear y0 y1 y2 y3 y4 yf; obtain ⟨y0, y1, y2, y3, y4, yf⟩ := HA.out.2.1)); replace HX := hid (HX.out.below hb); clear hr hO hg1 hg2 hln hb)
        go_wp2_with fail
        refine hK.out _ _ ?_ (fun hHeld => ?_)
        · exact ⟨HX.out.x.b.c0, HX.out.x.b.c1, HX.out.x.b.c2, HX.out.x.b.c3, HX.out.x.b.c4, HX.out.x.d.c0, HX.out.x.d.c1, HX.out.x.d.c2, HX.out.x.d.c3, HX.out.a.c0, HX.out.a.c1, HX.out.a.c2, HX.out.a.c3⟩
        clear hK K
        try simp only [Act.put, List.setIfInBounds_toArray, List.set_cons_zero, List.set_cons_succ]
        refine wpAnyH_ready (rs := [8]) (by kernel_rfl) (by simp) ?_
        refine AllReadyH.cons (o := { dst := some 39, op := Op.call { callee := Callee.value (Operand.func 55), args := #[Operand.tmp 35, Operand.tmp 36, Operand.tmp 37, Operand.tmp 38], argTypes := #[26, 23, 3, 3] }, type := 26, pos := "move.go:46", after := #[{ on := 4, ground := Ground.data }, { on := 5, ground := Ground.data }, { on := 6, ground := Ground.data }, { on := 7, ground := Ground.data }, { on := 4, ground := Ground.chain }], guard := none }) rfl (fun K hK => ?_) AllReadyH.nil
        go_simp
        (go_at_call 55; with_reducible refine Calls.mono (box_any (orN A) co cn cm cg coff (fun x y => atX B f (x - dx) (y - dy)) D rx ry _ HLc.out.1 HLc.out.2 HVc.out HBY.out HD.out.1 HD.out.2.1 HD.out.2.2.1 HD.out.2.2.2) ?_; rintro e wc ⟨hr, hb⟩; rw [HS.out] at hr; obtain ⟨eo, en, em, eg, eoff, rfl, hO, hg1, hg2, hln⟩ := retG hr; have HE := hid (And.intro (hO.mono HX.out.x.sz) hg2); (try (have HNE := hid (fun (_ : 0 < em) => ne_pre HA.out.2.1 hg1))); (try (replace HA := hid (And.intro HA.out.1 (And.intro (HA.out.2.1.below hb) HA.out.2.2)); clear y0 y1 y2 y3 y4 yf; obtain ⟨y0, y1, y2, y3, y4, yf⟩ := HA.out.2.1)); replace HX := hid (HX.out.below hb); clear hr hO hg1 hg2 hln hb)
        go_wp2_with fail
        refine hK.out _ _ ?_ (fun hHeld => ?_)
        · exact ⟨HX.out.x.b.c0, HX.out.x.b.c1, HX.out.x.b.c2, HX.out.x.b.c3, HX.out.x.b.c4, HX.out.x.d.c0, HX.out.x.d.c1, HX.out.x.d.c2, HX.out.x.d.c3, HX.out.a.c0, HX.out.a.c1, HX.out.a.c2, HX.out.a.c3⟩
        clear hK K
        try simp only [Act.put, List.setIfInBounds_toArray, List.set_cons_zero, List.set_cons_succ]
        refine wpAnyH_ready (rs := [10]) (by kernel_rfl) (by simp) ?_
        refine AllReadyH.cons (o := { dst := none, op := Op.store 26 (Operand.tmp 16) (Operand.tmp 39), type := 0, pos := "move.go:46", after := #[{ on := 9, ground := Ground.data }, { on := 8, ground := Ground.data }, { on := 8, ground := Ground.chain }, { on := 0, ground := Ground.phase }, { on := 1, ground := Ground.phase }, { on := 2, ground := Ground.phase }, { on := 3, ground := Ground.phase }, { on := 4, ground := Ground.phase }, { on := 5, ground := Ground.phase }, { on := 6, ground := Ground.phase }, { on := 7, ground := Ground.phase }, { on := 8, ground := Ground.phase }, { on := 9, ground := Ground.phase }], guard := none }) rfl (fun K hK => ?_) AllReadyH.nil
        go_simp
        refine hK.out _ _ ?_ (fun hHeld => ?_)
        · first
            | (have hXn := HX.out.but (but_set5 _ _ (.int .i64 (orN D).x0) (.int .i64 (orN D).y0) (.int .i64 (orN D).x1) (.int .i64 (orN D).y1) (.slice eo en em)) HA.out.1 HA.out.2.2; with_reducible exact ⟨hXn.x.b.c0, hXn.x.b.c1, hXn.x.b.c2, hXn.x.b.c3, hXn.x.b.c4, hXn.x.d.c0, hXn.x.d.c1, hXn.x.d.c2, hXn.x.d.c3, hXn.a.c0, hXn.a.c1, hXn.a.c2, hXn.a.c3⟩)
            | (have hXn := HXp.out.below ((Below.refl _ _).alloc (Nat.le_refl _) (.cells #[.int .i64 (orN D).x0, .int .i64 (orN D).y0, .int .i64 (orN D).x1, .int .i64 (orN D).y1, .slice eo en em] 26)); with_reducible exact ⟨hXn.x.b.c0, hXn.x.b.c1, hXn.x.b.c2, hXn.x.b.c3, hXn.x.b.c4, hXn.x.d.c0, hXn.x.d.c1, hXn.x.d.c2, hXn.x.d.c3, hXn.a.c0, hXn.a.c1, hXn.a.c2, hXn.a.c3⟩)
        clear hK K
        try simp only [Act.put, List.setIfInBounds_toArray, List.set_cons_zero, List.set_cons_succ]
        refine wpAnyH_done (by kernel_rfl) ?_ _
        go_wp2_with fail
        go_meet
        case rel =>
          first
            | with_reducible exact ⟨_, eo, en, em, eg, eoff, rfl, (HX.out.but (but_set5 _ _ (.int .i64 (orN D).x0) (.int .i64 (orN D).y0) (.int .i64 (orN D).x1) (.int .i64 (orN D).y1) (.slice eo en em)) HA.out.1 HA.out.2.2).x, has5_set HA.out.2.1 (orN D).x0 (orN D).y0 (orN D).x1 (orN D).y1 eo en em, HE.out.1.but (but_set5 _ _ (.int .i64 (orN D).x0) (.int .i64 (orN D).y0) (.int .i64 (orN D).x1) (.int .i64 (orN D).y1) (.slice eo en em)) (fun h => Ne.symm (HNE.out h)), HA.out.1, HNE.out⟩
            | with_reducible exact ⟨_, eo, en, em, eg, eoff, rfl, (HXp.out.below ((Below.refl _ _).alloc (Nat.le_refl _) (.cells #[.int .i64 (orN D).x0, .int .i64 (orN D).y0, .int .i64 (orN D).x1, .int .i64 (orN D).y1, .slice eo en em] 26))).x, Has5.new rfl _ _ _ _ _ _ _ _, HEp.out.1.below ((Below.refl _ _).alloc (Nat.le_refl _) (.cells #[.int .i64 (orN D).x0, .int .i64 (orN D).y0, .int .i64 (orN D).x1, .int .i64 (orN D).y1, .slice eo en em] 26)), HXp.out.x.sz, HNE.out⟩
    case rest =>
      obtain ⟨k16, eo, en, em, eg', eoff, rfl, hX, hH, hO, hk, hne⟩ := hcut
      obtain ⟨w5, rfl⟩ : ∃ w5, w5 = wc := ⟨_, rfl⟩
      obtain ⟨eg, hO2, hg1, hg2⟩ := ox_half hO (fun k => k16 ≠ k ∧ (w.heap.size + 1 + 1 + 1 + 1) ≤ k) (fun h => ⟨hne h, (hO.new h).1⟩) (fun k hk5 => ⟨by have := hH.lt; omega, Nat.le_trans hX.sz hk5⟩)
      have hen : wid (orN D) * hei (orN D) = en := by have := vx_len hO.v; rw [img_len] at this; exact this
      have HEN : Hid (bufB (orN D) en = true ∧ en ≤ 5000) := by rw [← hen]; exact hid HQ.out
      have hen5 : en ≤ 5000 := HEN.out.2
      have HL : Hid (Sl w B D p ao n m k16 eo en em eg eoff (halfL (img (orN D) (softX B f dx dy rx ry)) (fun q => scaleX p q.c3) 0) w5) := by rw [half_0]; exact hid ⟨hX, hH, hO2, hk, hg2, hg1⟩
      have HLEN : Hid ((img (orN D) (softX B f dx dy rx ry)).length = en) := hid (vx_len hO.v)
      clear hX hH hO hk hne hO2 hg1 hg2 hen HX HS HQ HAO HMM HMV HGR
      obtain ⟨h0, h1, h2, h3, h4, hf⟩ := HL.out.h
      go_wp2
      clear h0 h1 h2 h3 h4 hf
      go_loopg [43] en (fun gh v43 wr => ∃ i : Nat, i ≤ en ∧ gh = en - i ∧ v43 = .int .i64 (i : Int) ∧ Sl w B D p ao n m k16 eo en em eg eoff (halfL (img (orN D) (softX B f dx dy rx ry)) (fun q => scaleX p q.c3) i) wr)
      case atStart => exact ⟨0, Nat.zero_le _, rfl, rfl, HL.out⟩
      case round =>
        clear HL
        obtain ⟨i, hi, rfl, rfl, hL⟩ := hrel
        have HL := hid hL
        by_cases hil : i < en
        · have hiz : (i : Int) < (en : Int) := by omega
          obtain ⟨s, hs⟩ : ∃ s, (img (orN D) (softX B f dx dy rx ry))[i]? = some s := ⟨_, List.getElem?_eq_getElem (by have := HLEN.out; omega)⟩
          have hh := half_at (s := fun q => scaleX p q.c3) hs
          have HH := hid hh
          have HST := hid (half_step (s := fun q => scaleX p q.c3) hs)
          obtain ⟨rfl, c0, c1, c2, c3⟩ := vx_at hL.o.v hh
          have hsb : byteX s := by
            obtain ⟨x, y, hxy⟩ := img_mem (List.mem_of_getElem? hs)
            rw [hxy]
            exact soft_byte HBB.out.1 _ _ _ _ _ _
          have HSB : Hid (0 ≤ s.c3 ∧ s.c3 ≤ 255) := hid hsb.2.2.2
          obtain ⟨h0, h1, h2, h3, h4, hf⟩ := hL.h
          clear hL hs hh hsb
          go_wp2
          have HL1 : Hid (Sl w B D p ao n m k16 (some ⟨eg, eoff, none⟩) en em eg eoff (halfL (img (orN D) (softX B f dx dy rx ry)) (fun q => scaleX p q.c3) i) (wr.alloc (.cells #[.int .u8 s.c0, .int .u8 s.c1, .int .u8 s.c2, .int .u8 s.c3] 28)) ∧ Rc.Has4 (wr.alloc (.cells #[.int .u8 s.c0, .int .u8 s.c1, .int .u8 s.c2, .int .u8 s.c3] 28)) wr.heap.size (.int .u8 s.c0) (.int .u8 s.c1) (.int .u8 s.c2) (.int .u8 s.c3)) := hid ⟨HL.out.below ((Below.refl _ _).alloc (Nat.le_refl _) _), Rc.Has4.new rfl _ _ _ _ _⟩
          clear c0 c1 c2 c3 HL h0 h1 h2 h3 h4 hf
          generalize wr.alloc (.cells #[.int .u8 s.c0, .int .u8 s.c1, .int .u8 s.c2, .int .u8 s.c3] 28) = wr1 at HL1 ⊢
          generalize wr.heap.size = k18 at HL1 ⊢
          obtain ⟨e0, e1, e2, e3, ef⟩ := HL1.out.2
          obtain ⟨h0, h1, h2, h3, h4, hf⟩ := HL1.out.1.h
          obtain ⟨q0, q1, q2, q3, qf⟩ := HL1.out.1.x.q
          obtain ⟨⟨c0, c1, c2, c3⟩, z0, z1, z2, z3⟩ := ox_px HL1.out.1.o HH.out
          go_region_with (go_at_call 56; with_reducible refine Calls.mono (scale4 p s.c3 _ HBB.out.2 HSB.out) ?_; rintro e w6 ⟨rfl, hb6⟩; have HL2 := hid (HL1.out.1.below (Rc.via (Below.refl _ _).drew hb6)); clear hb6 c0 c1 c2 c3 z0 z1 z2 z3 e0 e1 e2 e3 ef h0 h1 h2 h3 h4 hf q0 q1 q2 q3 qf; obtain ⟨⟨c0, c1, c2, c3⟩, z0, z1, z2, z3⟩ := ox_px HL2.out.o HH.out; obtain ⟨h0, h1, h2, h3, h4, hf⟩ := HL2.out.h)
          all_goals
            go_wp2
            go_roundg (en - (i + 1))
            case measure => omega
            case rel =>
              have h1 := ox_put HL2.out.o (s := i) (news := [scaleX p s.c3]) (by simp; omega)
              have h2 := but_cells eg (eoff + i * 4) (flat [scaleX p s.c3]) w6
              rw [HST.out] at h1
              exact ⟨i + 1, by omega, rfl, by simp, HL2.out.to h2 h1⟩
        · obtain rfl : en = i := by omega
          have HO : Hid (Ox (w.heap.size + 1 + 1 + 1 + 1) wr eo en em eg eoff (img (orN D) (fun x y => scaleX p ((softX B f dx dy rx ry) x y).c3))) := by
            have h1 := hL.o
            rw [half_all _ _ _ (by have := HLEN.out; omega), map_img] at h1
            exact hid h1
          have HF : Hid (∀ x y, byteX (scaleX p ((softX B f dx dy rx ry) x y).c3)) := hid (fun x y => scale_byte HBB.out.2 (soft_byte HBB.out.1 _ _ _ _ _ _).2.2.2)
          have HVw : Hid (Vx wr ao n m g off (img B f)) := hid (HV.out.below hL.x.low)
          have HNE : Hid (0 < em → 0 < n → g ≠ eg) := hid (fun _ hn0 => by have := vx_lt HV.out hn0; have := hL.g; omega)
          obtain ⟨h0, h1, h2, h3, h4, hf⟩ := hL.h
          obtain ⟨b0, b1, b2, b3, b4, bf⟩ := hL.x.b
          clear hL
          go_wp2_with (go_at_call 57; with_reducible refine Calls.mono (lay_any (w.heap.size + 1 + 1 + 1 + 1) eg eoff en em eo (orN D) (fun x y => scaleX p ((softX B f dx dy rx ry) x y).c3) B ao n m g off f _ HEN.out.2 HEN.out.1 HO.out HF.out HB.out.1 HB.out.2.1 HVw.out HBB.out.1 HNE.out) ?_; rintro e w7 ⟨rfl, hO, hbu⟩; have HL7 := hid (HL.out.to hbu hO); clear hO hbu h0 h1 h2 h3 h4 hf b0 b1 b2 b3 b4 bf; obtain ⟨h0, h1, h2, h3, h4, hf⟩ := HL7.out.h; obtain ⟨z0, z1, z2, z3, z4, zf⟩ := HL7.out.x.z)
          obtain ⟨s0, s1, s2, s3, s4⟩ := set5 z0 z1 z2 z3 z4 (.int .i64 (orN D).x0) (.int .i64 (orN D).y0) (.int .i64 (orN D).x1) (.int .i64 (orN D).y1) (.slice eo en em)
          refine bodyPost_ret (v := .agg #[.int .i64 (orN D).x0, .int .i64 (orN D).y0, .int .i64 (orN D).x1, .int .i64 (orN D).y1, .slice eo en em]) (by simp [results, Try.results27, go_sem, s0, s1, s2, s3, s4]) rfl ⟨⟨_, _, _, eg, eoff, rfl, ?_⟩, ?_⟩
          · exact (HL7.out.o.mono (by omega)).but (but_set5 _ _ _ _ _ _ _) (fun _ => by have := HL7.out.g; omega)
          · exact below_set5 HL7.out.x.low (by omega) _ _ _ _ _
end Go.Proofs.Ytfgfgfmimejpdaa
