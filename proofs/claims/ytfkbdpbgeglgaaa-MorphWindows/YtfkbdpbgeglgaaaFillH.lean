/- Rows, then columns: what stands while an area is filled. -/
import Derived.Test.YtfkbdpbgeglgaaaAlong
namespace Go.Proofs.Ytfkbdpbgeglgaaa
open Num Go.RowKit
set_option linter.unusedVariables false
set_option linter.unusedSimpArgs false

/-- a queue's cells, all nought -/
def zq : List Value := List.replicate 512 (Value.int .i64 0) ++ List.replicate 512 (Value.int .u8 0) ++ [Value.int .u64 0, Value.int .u64 0]
def zs0 : Array Value := (zq ++ zq ++ zq ++ zq ++ [Value.int .u8 0]).toArray
theorem zq_len : zq.length = 1026 := by
  unfold zq
  rw [List.length_append, List.length_append, List.length_replicate, List.length_replicate]
  rfl
theorem zs_size : zs0.size = 4105 := by
  unfold zs0
  simp only [List.size_toArray, List.length_append, zq_len, List.length_singleton]
theorem zs_some (v : Value) {j : Nat} (hj : j < 4104) : ((zs0.setIfInBounds 4104 v)[j]?).isSome = true := by
  rw [Array.getElem?_eq_getElem (by rw [Array.size_setIfInBounds, zs_size]; omega)]
  rfl
theorem zs_last (v : Value) : (zs0.setIfInBounds 4104 v)[4104]? = some v := by
  rw [Array.getElem?_setIfInBounds_self_of_lt (by rw [zs_size]; omega)]
theorem zs_ne (v : Value) : zs0.setIfInBounds 4104 v ≠ #[] := by
  intro h
  have := zs_last v
  rw [h] at this
  simp at this
theorem info64 : (Try.prog.info? 64).map (fun i => i.zero) = some (some (.agg zs0)) := by kernel_rfl
theorem zero64 (w : World) : (zeroValue 64).run Try.prog w = .ok (.agg zs0) w := by
  have h := info64
  cases hi : Try.prog.info? 64 with
  | none => rw [hi] at h; simp at h
  | some i =>
    rw [hi] at h
    simp at h
    simp [zeroValue, typeInfo, hi, h]
theorem sr_new (w : World) (t : Bool) (ty : TypeId) {k : Nat} (hk : k = w.heap.size) : Sr (w.alloc (.cells (zs0.setIfInBounds 4104 (.int .u8 (tv t))) ty)) k t := by
  subst hk
  refine ⟨fun j hj => ?_, ?_, fun j => World.frozen?_alloc_new w _ _ j⟩
  · rw [World.cell?_alloc_new w (zs0.setIfInBounds 4104 (.int .u8 (tv t))) ty j]
    exact zs_some _ hj
  · rw [World.cell?_alloc_new w (zs0.setIfInBounds 4104 (.int .u8 (tv t))) ty 4104]
    exact zs_last _

/-- along a row, within the box -/
def rowE (t : Bool) (B : R) (f : Int → Int → X) (r : Nat) (x y : Int) : X := extX t (fun u => f u y) (mx B.x0 (x - (r : Int))) (mn B.x1 (x + (r : Int) + 1))
def colE (t : Bool) (Q : R) (u : Int → Int → X) (r : Nat) (x y : Int) : X := extX t (fun v => u x v) (mx Q.y0 (y - (r : Int))) (mn Q.y1 (y + (r : Int) + 1))
theorem extI_shift (t : Bool) (u : Int → Int) (a l : Int) : ∀ n : Nat, extI t (fun i => u (a + i)) l n = extI t u (a + l) n
  | 0 => rfl
  | n + 1 => by
    unfold extI
    rw [extI_shift t u a l n, Int.add_assoc]
theorem extX_shift (t : Bool) (h : Int → X) (a l u : Int) : extX t (fun i => h (a + i)) l u = extX t h (a + l) (a + u) := by
  unfold extX
  rw [extI_shift t (fun i => (h i).c0), extI_shift t (fun i => (h i).c1), extI_shift t (fun i => (h i).c2), extI_shift t (fun i => (h i).c3), show a + u - (a + l) - 1 = u - l - 1 by omega]
theorem areaI_row (F : Int → Int → X) (x0 y : Int) (G : Nat → X) (h : Int → X) : ∀ K : Nat, (∀ j : Nat, j < K → G j = h (x0 + (j : Int))) → lineI F (fun j => x0 + (j : Int)) (fun _ => y) G K = putG F y x0 (x0 + (K : Int)) h
  | 0, _ => by
    funext x v
    unfold lineI putG
    rw [if_neg (by omega)]
  | K + 1, hG => by
    have ih := areaI_row F x0 y G h K (fun j hj => hG j (by omega))
    funext x v
    show putG (lineI F (fun j => x0 + (j : Int)) (fun _ => y) G K) y (x0 + (K : Int)) (x0 + (K : Int) + 1) (fun _ => G K) x v = _
    rw [ih, hG K (by omega)]
    unfold putG
    by_cases h1 : v = y ∧ x0 + (K : Int) ≤ x ∧ x < x0 + (K : Int) + 1
    · rw [if_pos h1, if_pos (by omega), show x = x0 + (K : Int) by omega]
    · rw [if_neg h1]
      by_cases h2 : v = y ∧ x0 ≤ x ∧ x < x0 + (K : Int)
      · rw [if_pos h2, if_pos (by omega)]
      · rw [if_neg h2, if_neg (by omega)]
/-- columns so far -/
def colsG (M : R) (U F : Int → Int → X) (x a b : Int) : X := if M.x0 ≤ a ∧ a < x ∧ M.y0 ≤ b ∧ b < M.y1 then U a b else F a b
theorem areaI_col (M : R) (U F : Int → Int → X) (x : Int) (hx : M.x0 ≤ x) (G : Nat → X) : ∀ K : Nat, (∀ j : Nat, j < K → G j = U x (M.y0 + (j : Int))) → lineI (colsG M U F x) (fun _ => x) (fun j => M.y0 + (j : Int)) G K = fun a b => if a = x ∧ M.y0 ≤ b ∧ b < M.y0 + (K : Int) then U a b else colsG M U F x a b
  | 0, _ => by
    funext a b
    unfold lineI
    rw [if_neg (by omega)]
  | K + 1, hG => by
    have ih := areaI_col M U F x hx G K (fun j hj => hG j (by omega))
    funext a b
    show putG (lineI (colsG M U F x) (fun _ => x) (fun j => M.y0 + (j : Int)) G K) (M.y0 + (K : Int)) x (x + 1) (fun _ => G K) a b = _
    rw [ih, hG K (by omega)]
    unfold putG
    by_cases h1 : b = M.y0 + (K : Int) ∧ x ≤ a ∧ a < x + 1
    · rw [if_pos h1, if_pos (by omega), show a = x by omega, h1.1]
    · rw [if_neg h1]
      dsimp only
      by_cases h2 : a = x ∧ M.y0 ≤ b ∧ b < M.y0 + (K : Int)
      · rw [if_pos h2, if_pos (by omega)]
      · rw [if_neg h2, if_neg (by omega)]
theorem cols_next (M : R) (U F : Int → Int → X) {x : Int} (hx : M.x0 ≤ x) {K : Nat} (hK : M.y1 - M.y0 = (K : Int)) : (fun a b => if a = x ∧ M.y0 ≤ b ∧ b < M.y0 + (K : Int) then U a b else colsG M U F x a b) = colsG M U F (x + 1) := by
  funext a b
  unfold colsG
  by_cases h1 : a = x ∧ M.y0 ≤ b ∧ b < M.y0 + (K : Int)
  · rw [if_pos h1, if_pos (by omega)]
  · rw [if_neg h1]
    by_cases h2 : M.x0 ≤ a ∧ a < x ∧ M.y0 ≤ b ∧ b < M.y1
    · rw [if_pos h2, if_pos (by omega)]
    · rw [if_neg h2, if_neg (by omega)]
theorem cols_first (M : R) (U F : Int → Int → X) : colsG M U F M.x0 = F := by
  funext a b
  unfold colsG
  rw [if_neg (by omega)]

theorem But.other2 {g a b : Nat} {w w1 w2 : World} (h : But g w w1) (hb : But2 a b w1 w2) (ha : w.heap.size ≤ a) (hk : w.heap.size ≤ b) : But g w w2 :=
  ⟨hb.os.trans h.os, hb.tape.trans h.tape, hb.output.trans h.output, Nat.le_trans h.size hb.size, fun i hi hig => (hb.block i (Nat.lt_of_lt_of_le hi h.size) (by omega) (by omega)).trans (h.block i hi hig)⟩
theorem But.same2 {g b : Nat} {w w1 w2 : World} (h : But g w w1) (hb : But2 g b w1 w2) (hk : w.heap.size ≤ b) : But g w w2 :=
  ⟨hb.os.trans h.os, hb.tape.trans h.tape, hb.output.trans h.output, Nat.le_trans h.size hb.size, fun i hi hig => (hb.block i (Nat.lt_of_lt_of_le hi h.size) hig (by omega)).trans (h.block i hi hig)⟩
theorem Oz.but2 {sz B g k : Nat} {W w : World} {ao : Option Addr} {n c b off : Nat} {cs : List Value} (h : Oz sz B W ao n c b off cs) (hb : But2 g k W w) (hg : b ≠ g) (hk : b ≠ k) : Oz sz B w ao n c b off cs :=
  h.block hb.size fun hc => hb.block b (h.new hc).2 hg hk

/-- how the area lies: in the buffer that is made, and by the source -/
structure Fit (Z B M : R) (rx ry : Nat) : Prop where
  oz : Ok Z
  ob : Ok B
  om : Ok M
  mx : Z.x0 ≤ M.x0 ∧ M.x0 < M.x1 ∧ M.x1 ≤ Z.x1
  my : Z.y0 ≤ M.y0 ∧ M.y0 < M.y1 ∧ M.y1 ≤ Z.y1
  bx : B.x0 < B.x1 ∧ B.x0 ≤ M.x0 + (rx : Int) ∧ M.x1 ≤ B.x1 + (rx : Int)
  by_ : B.y0 < B.y1 ∧ B.y0 ≤ M.y0 + (ry : Int) ∧ M.y1 ≤ B.y1 + (ry : Int)
  hx : rx ≤ 255
  hy : ry ≤ 255
def rowsQ (B M : R) (ry : Nat) : R := ⟨M.x0, mx B.y0 (M.y0 - (ry : Int)), M.x1, mn B.y1 (M.y1 + (ry : Int))⟩
def endA (B M : R) (rx : Nat) : Int := mn B.x1 (M.x1 + (rx : Int))
def firstA (B M : R) (rx : Nat) : Int := mx B.x0 (M.x0 - (rx : Int))

/-- what stands -/
structure Fs (w : World) (lo g off n m : Nat) (Z : R) (Fz : Int → Int → X) (sg soff sn sm : Nat) (B : R) (f : Int → Int → X) (rg roff rn rm : Nat) (Q : R) (Fq : Int → Int → X) (k6 k7 k8 k9 ks : Nat) (M : R) (t : Bool) (wr : World) : Prop where
  a : Has5 wr k6 Z (some ⟨g, off, none⟩) n m
  b : Rc.Has4 wr k7 (.int .i64 M.x0) (.int .i64 M.y0) (.int .i64 M.x1) (.int .i64 M.y1)
  s : Has5 wr k8 B (some ⟨sg, soff, none⟩) sn sm
  h : Has5 wr k9 Q (some ⟨rg, roff, none⟩) rn rm
  o : Ox lo wr (some ⟨g, off, none⟩) n m g off (img Z Fz)
  v : Vx wr (some ⟨sg, soff, none⟩) sn sm sg soff (img B f)
  q : Ox w.heap.size wr (some ⟨rg, roff, none⟩) rn rm rg roff (img Q Fq)
  r : Sr wr ks t
  but : But g w wr
  e6 : k6 ≠ g ∧ k6 ≠ rg ∧ k6 ≠ ks
  e7 : k7 ≠ g ∧ k7 ≠ rg ∧ k7 ≠ ks
  e8 : k8 ≠ g ∧ k8 ≠ rg ∧ k8 ≠ ks
  e9 : k9 ≠ g ∧ k9 ≠ rg ∧ k9 ≠ ks
  es : sg ≠ g ∧ sg ≠ rg ∧ sg ≠ ks
  er : rg ≠ g ∧ rg ≠ ks ∧ ks ≠ g
  hr : w.heap.size ≤ rg
  hk : w.heap.size ≤ ks
  hg : g < wr.heap.size
  hl : rg < wr.heap.size
section
variable {w : World} {lo g off n m : Nat} {Z : R} {Fz : Int → Int → X} {sg soff sn sm : Nat} {B : R} {f : Int → Int → X} {rg roff rn rm : Nat} {Q : R} {Fq : Int → Int → X} {k6 k7 k8 k9 ks : Nat} {M : R} {t : Bool} {wr wr' : World}
theorem Fs.below (h : Fs w lo g off n m Z Fz sg soff sn sm B f rg roff rn rm Q Fq k6 k7 k8 k9 ks M t wr) (hb : Below wr.heap.size wr wr') : Fs w lo g off n m Z Fz sg soff sn sm B f rg roff rn rm Q Fq k6 k7 k8 k9 ks M t wr' :=
  ⟨h.a.below hb, h.b.below hb, h.s.below hb, h.h.below hb, h.o.below hb, h.v.below hb, h.q.below hb, h.r.below hb, h.but.to hb, h.e6, h.e7, h.e8, h.e9, h.es, h.er, h.hr, h.hk, Nat.lt_of_lt_of_le h.hg hb.size, Nat.lt_of_lt_of_le h.hl hb.size⟩
theorem Fs.row (h : Fs w lo g off n m Z Fz sg soff sn sm B f rg roff rn rm Q Fq k6 k7 k8 k9 ks M t wr) {Fq' : Int → Int → X} (hq : Ox w.heap.size wr' (some ⟨rg, roff, none⟩) rn rm rg roff (img Q Fq')) (hs : Sr wr' ks t) (hb : But2 rg ks wr wr') : Fs w lo g off n m Z Fz sg soff sn sm B f rg roff rn rm Q Fq' k6 k7 k8 k9 ks M t wr' :=
  ⟨h.a.but2 hb h.e6.2.1 h.e6.2.2, has4_but2 h.b hb h.e7.2.1 h.e7.2.2, h.s.but2 hb h.e8.2.1 h.e8.2.2, h.h.but2 hb h.e9.2.1 h.e9.2.2, h.o.but2 hb (Ne.symm h.er.1) (Ne.symm h.er.2.2), h.v.but2 hb h.es.2.1 h.es.2.2, hq, hs, h.but.other2 hb h.hr h.hk, h.e6, h.e7, h.e8, h.e9, h.es, h.er, h.hr, h.hk, Nat.lt_of_lt_of_le h.hg hb.size, Nat.lt_of_lt_of_le h.hl hb.size⟩
theorem Fs.col (h : Fs w lo g off n m Z Fz sg soff sn sm B f rg roff rn rm Q Fq k6 k7 k8 k9 ks M t wr) {Fz' : Int → Int → X} (ho : Ox lo wr' (some ⟨g, off, none⟩) n m g off (img Z Fz')) (hs : Sr wr' ks t) (hb : But2 g ks wr wr') : Fs w lo g off n m Z Fz' sg soff sn sm B f rg roff rn rm Q Fq k6 k7 k8 k9 ks M t wr' :=
  ⟨h.a.but2 hb h.e6.1 h.e6.2.2, has4_but2 h.b hb h.e7.1 h.e7.2.2, h.s.but2 hb h.e8.1 h.e8.2.2, h.h.but2 hb h.e9.1 h.e9.2.2, ho, h.v.but2 hb h.es.1 h.es.2.2, h.q.but2 hb h.er.1 h.er.2.1, hs, h.but.same2 hb h.hk, h.e6, h.e7, h.e8, h.e9, h.es, h.er, h.hr, h.hk, Nat.lt_of_lt_of_le h.hg hb.size, Nat.lt_of_lt_of_le h.hl hb.size⟩
theorem Fs.reQ (h : Fs w lo g off n m Z Fz sg soff sn sm B f rg roff rn rm Q Fq k6 k7 k8 k9 ks M t wr) {Fq' : Int → Int → X} (e : img Q Fq = img Q Fq') : Fs w lo g off n m Z Fz sg soff sn sm B f rg roff rn rm Q Fq' k6 k7 k8 k9 ks M t wr :=
  ⟨h.a, h.b, h.s, h.h, h.o, h.v, by rw [← e]; exact h.q, h.r, h.but, h.e6, h.e7, h.e8, h.e9, h.es, h.er, h.hr, h.hk, h.hg, h.hl⟩
end
/-- a row of a box, as a line -/
theorem lt_row {Z : R} {off n : Nat} {x0 y : Int} {K : Nat} (h1 : Z.y0 ≤ y ∧ y < Z.y1) (h2 : Z.x0 ≤ x0) (h3 : x0 + (K : Int) ≤ Z.x1) (hn : n = wid Z * hei Z) : Lt Z off (fun j => x0 + (j : Int)) (fun _ => y) (off + posN Z x0 y * 4) (n - posN Z x0 y) 1 K := by
  have hb : ∀ j : Nat, j < K → hasB Z (x0 + (j : Int)) y = true := fun j hj => decide_eq_true (by omega)
  have hp : ∀ j : Nat, posN Z (x0 + (j : Int)) y = posN Z x0 y + j := fun j => by unfold posN; omega
  refine ⟨hb, fun j hj => by rw [hp]; omega, fun j hj => ?_⟩
  have := (pos_of (hb j hj)).1
  rw [hp] at this
  omega
/-- a column of a box, as a line -/
theorem lt_col {Z : R} {off n : Nat} {x y0 : Int} {K : Nat} (h1 : Z.x0 ≤ x ∧ x < Z.x1) (h2 : Z.y0 ≤ y0) (h3 : y0 + (K : Int) ≤ Z.y1) (hn : n = wid Z * hei Z) : Lt Z off (fun _ => x) (fun j => y0 + (j : Int)) (off + posN Z x y0 * 4) (n - posN Z x y0) (wid Z) K := by
  have hb : ∀ j : Nat, j < K → hasB Z x (y0 + (j : Int)) = true := fun j hj => decide_eq_true (by omega)
  have hp : ∀ j : Nat, posN Z x (y0 + (j : Int)) = posN Z x y0 + j * wid Z := fun j => by
    unfold posN
    rw [show (y0 + (j : Int) - Z.y0).toNat = (y0 - Z.y0).toNat + j by omega, Nat.add_mul]
    omega
  refine ⟨hb, fun j hj => by rw [hp]; omega, fun j hj => ?_⟩
  have := (pos_of (hb j hj)).1
  rw [hp] at this
  omega
/-- the product that an index wants -/
theorem idx_of {Z : R} {x y : Int} (h1 : Z.y0 ≤ y) (h2 : Z.x0 ≤ x) (h3 : Z.x0 ≤ Z.x1) : ∃ s : Nat, (y - Z.y0) * (Z.x1 - Z.x0) = (s : Int) ∧ (s : Int) + x - Z.x0 = ((posN Z x y : Nat) : Int) ∧ s ≤ posN Z x y := by
  have hp := pos_int (B := Z) (x := x) (y := y) h2 h1 h3
  have h4 := Int.mul_nonneg (a := y - Z.y0) (b := Z.x1 - Z.x0) (by omega) (by omega)
  exact ⟨((y - Z.y0) * (Z.x1 - Z.x0)).toNat, by omega, by omega, by omega⟩
end Go.Proofs.Ytfkbdpbgeglgaaa
