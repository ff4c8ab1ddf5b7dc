/- One buffer laid on top of another: the contract of the code. -/
import Derived.Test.YtfgfgfmimejpdaaOver
import Derived.Test.YtfgfgfmimejpdaaCopyS
import Derived.Test.YtfgfgfmimejpdaaBoth
import Derived.Deep.LoopGhost
import Derived.Deep.Light
namespace Go.Proofs.Ytfgfgfmimejpdaa
open Num Go.RowKit
set_option linter.unusedVariables false
set_option linter.unusedSimpArgs false

theorem over4 (a0 a1 a2 a3 b0 b1 b2 b3 : Int) (w : World) (ha : byteX ⟨a0, a1, a2, a3⟩) (hb : byteX ⟨b0, b1, b2, b3⟩) : Calls Try.prog 77 #[.int .i64 0, .agg #[.int .u8 a0, .int .u8 a1, .int .u8 a2, .int .u8 a3], .agg #[.int .u8 b0, .int .u8 b1, .int .u8 b2, .int .u8 b3]] w fun e w' => e = .returned (pxV (overX ⟨a0, a1, a2, a3⟩ ⟨b0, b1, b2, b3⟩)) ∧ Below w.heap.size w w' := over_any ⟨a0, a1, a2, a3⟩ ⟨b0, b1, b2, b3⟩ w ha hb
theorem hasB_iff' {r : R} {x y : Int} : hasB r x y = true ↔ (r.x0 ≤ x ∧ x < r.x1) ∧ (r.y0 ≤ y ∧ y < r.y1) := by
  unfold hasB
  rw [decide_eq_true_eq]
  omega
/-- rows ahead of y are laid, and in the row y what is ahead of x -/
def layO (A : R) (u F : Int → Int → X) (y : Int) (x' y' : Int) : X := if hasB A x' y' = true ∧ y' < y then overX (u x' y') (F x' y') else F x' y'
def layG (A : R) (u F : Int → Int → X) (x y : Int) (x' y' : Int) : X := if hasB A x' y' = true ∧ (y' < y ∨ (y' = y ∧ x' < x)) then overX (u x' y') (F x' y') else F x' y'
theorem lay_start (A : R) (u F : Int → Int → X) : layO A u F A.y0 = F := by
  funext x' y'
  unfold layO
  rw [if_neg (fun h => by have := hasB_iff'.1 h.1; omega)]
theorem lay_row0 (A : R) (u F : Int → Int → X) (y : Int) : layG A u F A.x0 y = layO A u F y := by
  funext x' y'
  unfold layO layG
  by_cases e : hasB A x' y' = true ∧ y' < y
  · rw [if_pos e, if_pos ⟨e.1, .inl e.2⟩]
  · rw [if_neg e, if_neg]
    rintro ⟨h1, h2 | h2⟩
    · exact e ⟨h1, h2⟩
    · have := hasB_iff'.1 h1; omega
theorem lay_row1 (A : R) (u F : Int → Int → X) (y : Int) : layG A u F A.x1 y = layO A u F (y + 1) := by
  funext x' y'
  unfold layO layG
  by_cases e : hasB A x' y' = true ∧ y' < y + 1
  · rw [if_pos e, if_pos ⟨e.1, by have := hasB_iff'.1 e.1; omega⟩]
  · rw [if_neg e, if_neg]
    rintro ⟨h1, h2⟩
    exact e ⟨h1, by omega⟩
theorem lay_at (A : R) (u F : Int → Int → X) (x y : Int) : layG A u F x y x y = F x y := by
  unfold layG
  rw [if_neg (by rintro ⟨-, h | h⟩ <;> omega)]
theorem lay_step {A : R} {u F : Int → Int → X} {x y : Int} (h : hasB A x y = true) : putG (layG A u F x y) y x (x + 1) (fun _ => overX (u x y) (F x y)) = layG A u F (x + 1) y := by
  funext x' y'
  unfold putG
  by_cases e : y' = y ∧ x ≤ x' ∧ x' < x + 1
  · rw [if_pos e]
    obtain ⟨rfl, e2, e3⟩ := e
    obtain rfl : x' = x := by omega
    unfold layG
    rw [if_pos ⟨h, .inr ⟨rfl, by omega⟩⟩]
  · rw [if_neg e]
    unfold layG
    by_cases d : hasB A x' y' = true ∧ (y' < y ∨ (y' = y ∧ x' < x))
    · rw [if_pos d, if_pos ⟨d.1, by omega⟩]
    · rw [if_neg d, if_neg]
      rintro ⟨h1, h2⟩
      exact d ⟨h1, by omega⟩
theorem lay_end {M B : R} {h F : Int → Int → X} (hF : ∀ x y, byteX (F x y)) : img M (layO (meet M B) (atX B h) F (meet M B).y1) = img M (fun x y => overX (atX B h x y) (F x y)) := by
  apply img_ext
  intro x y hb
  unfold layO
  by_cases c : hasB (meet M B) x y = true
  · rw [if_pos ⟨c, by have := hasB_iff'.1 c; omega⟩]
  · rw [if_neg (fun hh => c hh.1)]
    have h2 : ¬ hasB B x y = true := by
      intro h3
      rw [has_meet, hb, h3] at c
      exact c rfl
    unfold atX
    rw [if_neg h2, over_none (hF x y)]
theorem meet_in2 {B r : R} (he : empB (meet B r) = false) : r.x0 ≤ (meet B r).x0 ∧ (meet B r).x1 ≤ r.x1 ∧ r.y0 ≤ (meet B r).y0 ∧ (meet B r).y1 ≤ r.y1 := by
  unfold meet at he ⊢
  rcases e2 : empB ⟨mx B.x0 r.x0, mx B.y0 r.y0, mn B.x1 r.x1, mn B.y1 r.y1⟩ with _ | _
  · rw [orN_no e2]
    dsimp only
    unfold mx mn
    omega
  · rw [orN_yes e2] at he
    cases he
theorem ox_pix {lo : Nat} {w : World} {ao : Option Addr} {n m g off : Nat} {M : R} {F : Int → Int → X} (h : Ox lo w ao n m g off (img M F)) {q i : Nat} {x y : Int} (hq : posN M x y = q + i) (hi : In M x (x + 1) y) (p : X) :
    Ox lo ((((w.setCell ⟨g, off + q * 4 + i * 4, none⟩ (.int .u8 p.c0)).setCell ⟨g, off + q * 4 + i * 4 + 1, none⟩ (.int .u8 p.c1)).setCell ⟨g, off + q * 4 + i * 4 + 2, none⟩ (.int .u8 p.c2)).setCell ⟨g, off + q * 4 + i * 4 + 3, none⟩ (.int .u8 p.c3)) ao n m g off (img M (putG F y x (x + 1) (fun _ => p))) ∧ But g w ((((w.setCell ⟨g, off + q * 4 + i * 4, none⟩ (.int .u8 p.c0)).setCell ⟨g, off + q * 4 + i * 4 + 1, none⟩ (.int .u8 p.c1)).setCell ⟨g, off + q * 4 + i * 4 + 2, none⟩ (.int .u8 p.c2)).setCell ⟨g, off + q * 4 + i * 4 + 3, none⟩ (.int .u8 p.c3)) := by
  have h1 := ox_img_put h hi (fun _ => p)
  have h2 := but_cells g (off + q * 4 + i * 4) (flat [p]) w
  rw [line_one, hq, show off + (q + i) * 4 = off + q * 4 + i * 4 by omega] at h1
  exact ⟨h1, h2⟩
/-- a pixel's four cells, that may be written -/
theorem ox_cells {lo : Nat} {w : World} {ao : Option Addr} {n m g off : Nat} {l : List X} (h : Ox lo w ao n m g off l) {q i : Nat} {p : X} (hp : l[q + i]? = some p) :
    (w.cell? ⟨g, off + q * 4 + i * 4, none⟩ = some (.int .u8 p.c0) ∧ w.cell? ⟨g, off + q * 4 + i * 4 + 1, none⟩ = some (.int .u8 p.c1) ∧ w.cell? ⟨g, off + q * 4 + i * 4 + 2, none⟩ = some (.int .u8 p.c2) ∧ w.cell? ⟨g, off + q * 4 + i * 4 + 3, none⟩ = some (.int .u8 p.c3)) ∧ (w.frozen? ⟨g, off + q * 4 + i * 4, none⟩ = false ∧ w.frozen? ⟨g, off + q * 4 + i * 4 + 1, none⟩ = false ∧ w.frozen? ⟨g, off + q * 4 + i * 4 + 2, none⟩ = false ∧ w.frozen? ⟨g, off + q * 4 + i * 4 + 3, none⟩ = false) := by
  have hl := vx_len h.v
  have hlt : q + i < l.length := (List.getElem?_eq_some_iff.1 hp).1
  obtain ⟨-, a0, a1, a2, a3⟩ := vx_at h.v hp
  obtain ⟨u0, u1, u2, u3, -, -, -, -, z0, z1, z2, z3⟩ := ox_four h (q := q) (i := i) (by omega)
  rw [show off + (q + i) * 4 = off + q * 4 + i * 4 by omega] at a0 a1 a2 a3
  exact ⟨⟨a0, a1, a2, a3⟩, z0, z1, z2, z3⟩
theorem vx_cells {w : World} {ao : Option Addr} {n m g off : Nat} {l : List X} (h : Vx w ao n m g off l) {q i : Nat} {p : X} (hp : l[q + i]? = some p) :
    w.cell? ⟨g, off + q * 4 + i * 4, none⟩ = some (.int .u8 p.c0) ∧ w.cell? ⟨g, off + q * 4 + i * 4 + 1, none⟩ = some (.int .u8 p.c1) ∧ w.cell? ⟨g, off + q * 4 + i * 4 + 2, none⟩ = some (.int .u8 p.c2) ∧ w.cell? ⟨g, off + q * 4 + i * 4 + 3, none⟩ = some (.int .u8 p.c3) := by
  obtain ⟨-, a0, a1, a2, a3⟩ := vx_at h hp
  rw [show off + (q + i) * 4 = off + q * 4 + i * 4 by omega] at a0 a1 a2 a3
  exact ⟨a0, a1, a2, a3⟩

/-- while a buffer is laid -/
structure Ls (lo : Nat) (w : World) (k2 k3 k4 : Nat) (M B A : R) (ao : Option Addr) (n m g off : Nat) (bo : Option Addr) (bn bm bg boff : Nat) (h F : Int → Int → X) (wr : World) : Prop where
  mm : Has5 wr k2 M ao n m
  s : Has5 wr k3 B bo bn bm
  a : Rc.Has4 wr k4 (.int .i64 A.x0) (.int .i64 A.y0) (.int .i64 A.x1) (.int .i64 A.y1)
  o : Ox lo wr ao n m g off (img M F)
  v : Vx wr bo bn bm bg boff (img B h)
  but : But g w wr
  ne : 0 < m → (k2 ≠ g ∧ k3 ≠ g ∧ k4 ≠ g) ∧ (0 < bn → bg ≠ g)
section
variable {lo : Nat} {w : World} {k2 k3 k4 : Nat} {M B A : R} {ao : Option Addr} {n m g off : Nat} {bo : Option Addr} {bn bm bg boff : Nat} {h F F' : Int → Int → X} {wr wr' : World}
theorem Ls.below (x : Ls lo w k2 k3 k4 M B A ao n m g off bo bn bm bg boff h F wr) (hb : Below wr.heap.size wr wr') : Ls lo w k2 k3 k4 M B A ao n m g off bo bn bm bg boff h F wr' :=
  ⟨x.mm.below hb, x.s.below hb, x.a.below hb, x.o.below hb, x.v.below hb, x.but.to hb, x.ne⟩
theorem Ls.to (x : Ls lo w k2 k3 k4 M B A ao n m g off bo bn bm bg boff h F wr) (hm : 0 < m) (hb : But g wr wr') (ho : Ox lo wr' ao n m g off (img M F')) : Ls lo w k2 k3 k4 M B A ao n m g off bo bn bm bg boff h F' wr' :=
  ⟨x.mm.but hb (x.ne hm).1.1, x.s.but hb (x.ne hm).1.2.1, has4_but x.a hb (x.ne hm).1.2.2, ho, vz_but x.v hb (fun hc => (x.ne hm).2 (by have := x.v.len; omega)), x.but.trans hb, x.ne⟩
end

set_option maxRecDepth 100000 in
set_option maxHeartbeats 8000000 in
theorem lay_any (lo g off n m : Nat) (ao : Option Addr) (M : R) (F : Int → Int → X) (B : R) (bo : Option Addr) (bn bm bg boff : Nat) (h : Int → Int → X) (w : World) (hn : n ≤ 5000) (hM : bufB M n = true) (hO : Ox lo w ao n m g off (img M F)) (hF : ∀ x y, byteX (F x y)) (hbn : bn ≤ 5000) (hB : bufB B bn = true) (hV : Vx w bo bn bm bg boff (img B h)) (hh : ∀ x y, byteX (h x y)) (hne : 0 < m → 0 < bn → bg ≠ g) :
    Calls Try.prog 57 #[.agg #[.int .i64 M.x0, .int .i64 M.y0, .int .i64 M.x1, .int .i64 M.y1, .slice ao n m], .agg #[.int .i64 B.x0, .int .i64 B.y0, .int .i64 B.x1, .int .i64 B.y1, .slice bo bn bm]] w fun e w' => e = .returned (.tuple #[]) ∧ Ox lo w' ao n m g off (img M (fun x y => overX (atX B h x y) (F x y))) ∧ But g w w' := by
  have hOM : Ok M := by
    rcases buf_cases hM with ⟨e1, e2, -⟩ | ⟨e1, e2, e3⟩
    · rw [e2]; exact ok_nil
    · exact ok_of_right e2
  have hOB : Ok B := by
    rcases buf_cases hB with ⟨e1, e2, -⟩ | ⟨e1, e2, e3⟩
    · rw [e2]; exact ok_nil
    · exact ok_of_right e2
  have hnM : n = wid M * hei M := by rw [← vx_len hO.v, img_len]
  have hnB : bn = wid B * hei B := by rw [← vx_len hV, img_len]
  have hbn2 : bn ≤ 9223372036854775807 := by omega
  obtain ⟨A, hA⟩ : ∃ A, A = meet M B := ⟨_, rfl⟩
  have HA := hid hA
  have HM : Hid (meet ⟨M.x0, M.y0, M.x1, M.y1⟩ ⟨B.x0, B.y0, B.x1, B.y1⟩ = A) := hA.symm
  have HAE : Hid (A.y0 < A.y1 → (M.x0 ≤ A.x0 ∧ A.x1 ≤ M.x1 ∧ M.y0 ≤ A.y0 ∧ A.y1 ≤ M.y1 ∧ A.x0 < A.x1) ∧ (B.x0 ≤ A.x0 ∧ A.x1 ≤ B.x1 ∧ B.y0 ≤ A.y0 ∧ A.y1 ≤ B.y1)) := by
    intro hl
    rw [hA] at hl ⊢
    have he := meet_some hl
    have h1 := meet_in he
    exact ⟨⟨h1.1, h1.2.1, h1.2.2.1, h1.2.2.2.1, h1.2.2.2.2.1⟩, meet_in2 he⟩
  have hAe := meet_edges M B
  rw [← hA] at hAe
  have hAok : Ok A := by rw [hA]; exact ok_meet hOM hOB
  obtain ⟨⟨i0, i1⟩, ⟨i2, i3⟩, ⟨i4, i5⟩, i6, i7⟩ := hAok
  obtain ⟨u, hu⟩ : ∃ u, u = atX B h := ⟨_, rfl⟩
  have HFU : Hid (img M (layO A u F A.y1) = img M (fun x y => overX (atX B h x y) (F x y))) := by rw [hA, hu]; exact lay_end hF
  have HU : Hid (∀ x y, hasB B x y = true → u x y = h x y) := fun x y hb => by rw [hu]; unfold atX; rw [if_pos hb]
  have HBY := hid (And.intro hF hh)
  have HN := hid (And.intro hOM (And.intro hnM (And.intro hO.v.le (And.intro hO.v.max trivial))))
  have HNB := hid (And.intro hOB (And.intro hnB (And.intro hV.le (And.intro hV.max trivial))))
  have HB := hid hB
  have HS0 : Hid (Has5 (((w.alloc (.cells #[.int .i64 M.x0, .int .i64 M.y0, .int .i64 M.x1, .int .i64 M.y1, .slice ao n m] 26)).alloc (.cells #[.int .i64 B.x0, .int .i64 B.y0, .int .i64 B.x1, .int .i64 B.y1, .slice bo bn bm] 26))) w.heap.size M ao n m ∧ Has5 (((w.alloc (.cells #[.int .i64 M.x0, .int .i64 M.y0, .int .i64 M.x1, .int .i64 M.y1, .slice ao n m] 26)).alloc (.cells #[.int .i64 B.x0, .int .i64 B.y0, .int .i64 B.x1, .int .i64 B.y1, .slice bo bn bm] 26))) (w.heap.size + 1) B bo bn bm ∧ Below w.heap.size w (((w.alloc (.cells #[.int .i64 M.x0, .int .i64 M.y0, .int .i64 M.x1, .int .i64 M.y1, .slice ao n m] 26)).alloc (.cells #[.int .i64 B.x0, .int .i64 B.y0, .int .i64 B.x1, .int .i64 B.y1, .slice bo bn bm] 26))) ∧ w.heap.size + 1 < (((w.alloc (.cells #[.int .i64 M.x0, .int .i64 M.y0, .int .i64 M.x1, .int .i64 M.y1, .slice ao n m] 26)).alloc (.cells #[.int .i64 B.x0, .int .i64 B.y0, .int .i64 B.x1, .int .i64 B.y1, .slice bo bn bm] 26))).heap.size) := ⟨(Has5.new rfl _ _ _ _ _ _ _ _).alloc _, Has5.new (by simp) _ _ _ _ _ _ _ _, ((Below.refl _ _).alloc (Nat.le_refl _) _).alloc (by simp) _, by simp⟩
  have HO := hid (And.intro hO (And.intro hV hne))
  rw [← HFU.out]
  clear hO hV hne hOM hOB hnM hnB hA hu hF hh hM hB
  obtain ⟨p0, p1, p2, p3, p4, pf⟩ := HS0.out.1
  obtain ⟨q0, q1, q2, q3, q4, qf⟩ := HS0.out.2.1
  go_enter Try.func57, Try.ntmps57
  go_wp2_with (first
    | (go_at_call 65; with_reducible refine Calls.mono (rasterRight_yes B.x0 B.y0 B.x1 B.y1 bo bn bm _ hbn2 HB.out) ?_; rintro e w1 ⟨rfl, hb1⟩; have HS1 := hid (And.intro (HS0.out.1.below hb1) (And.intro (HS0.out.2.1.below hb1) (Rc.via HS0.out.2.2.1 hb1))); have hz1 := hb1.size; clear hb1 p0 p1 p2 p3 p4 pf q0 q1 q2 q3 q4 qf; obtain ⟨p0, p1, p2, p3, p4, pf⟩ := HS1.out.1; obtain ⟨q0, q1, q2, q3, q4, qf⟩ := HS1.out.2.1)
    | (go_at_call 42; with_reducible refine Calls.mono (Rc.meet_any M.x0 M.y0 M.x1 M.y1 B.x0 B.y0 B.x1 B.y1 _) ?_; rintro e w2 ⟨rfl, hb2⟩; rw [HM.out]; have HS2 := hid (And.intro (HS1.out.1.below hb2) (And.intro (HS1.out.2.1.below hb2) (Rc.via HS1.out.2.2 hb2))); have hz2 := hb2.size; clear hb2 p0 p1 p2 p3 p4 pf q0 q1 q2 q3 q4 qf))
  have HLS : Hid (Ls lo w w.heap.size (w.heap.size + 1) w2.heap.size M B A ao n m g off bo bn bm bg boff h (layO A u F A.y0) (w2.alloc (.cells #[.int .i64 A.x0, .int .i64 A.y0, .int .i64 A.x1, .int .i64 A.y1] 23))) := by
    rw [lay_start]
    have hal : Below w2.heap.size w2 (w2.alloc (.cells #[.int .i64 A.x0, .int .i64 A.y0, .int .i64 A.x1, .int .i64 A.y1] 23)) := (Below.refl _ _).alloc (Nat.le_refl _) _
    have hb : Below w.heap.size w (w2.alloc (.cells #[.int .i64 A.x0, .int .i64 A.y0, .int .i64 A.x1, .int .i64 A.y1] 23)) := Rc.via HS2.out.2.2 hal
    have hz := HS2.out.2.2.size
    refine ⟨HS2.out.1.below hal, HS2.out.2.1.below hal, Rc.Has4.new rfl _ _ _ _ _, HO.out.1.below hb, HO.out.2.1.below hb, But.of hb, fun hm => ?_⟩
    have := (HO.out.1.new hm).2
    exact ⟨⟨by omega, by omega, by omega⟩, HO.out.2.2 hm⟩
  clear HS0 HS1 HS2 HO hz1 hz2
  generalize w2.alloc (.cells #[.int .i64 A.x0, .int .i64 A.y0, .int .i64 A.x1, .int .i64 A.y1] 23) = w3 at HLS ⊢
  generalize w2.heap.size = k4 at HLS ⊢
  clear w1 w2
  go_loopg [5] (A.y1 - A.y0).toNat (fun gh v5 wr => ∃ y, A.y0 ≤ y ∧ y ≤ A.y1 ∧ gh = (A.y1 - y).toNat ∧ v5 = .int .i64 y ∧ Ls lo w w.heap.size (w.heap.size + 1) k4 M B A ao n m g off bo bn bm bg boff h (layO A u F y) wr)
  case atStart => exact ⟨A.y0, Int.le_refl _, hAe.2, rfl, rfl, HLS.out⟩
  case round =>
    clear HLS
    obtain ⟨y, hy0, hy1, rfl, rfl, hL⟩ := hrel
    have HL := hid hL
    obtain ⟨r0, r1, r2, r3, rf⟩ := hL.a
    by_cases hlt : y < A.y1
    · obtain ⟨⟨a0, a1, a2, a3, a4⟩, b0, b1, b2, b3⟩ := HAE.out (by omega)
      have hIM : In M A.x0 A.x1 y := ⟨by omega, by omega, by omega, by omega, by omega⟩
      have hIB : In B A.x0 A.x1 y := ⟨by omega, by omega, by omega, by omega, by omega⟩
      have hpM := pos_end ⟨hIM.y0, hIM.y1⟩ hIM.x0 hIM.le hIM.x1
      have hpB := pos_end ⟨hIB.y0, hIB.y1⟩ hIB.x0 hIB.le hIB.x1
      rw [← HN.out.2.1] at hpM
      rw [← HNB.out.2.1] at hpB
      obtain ⟨K, hK⟩ : ∃ K, K = (A.x1 - A.x0).toNat := ⟨_, rfl⟩
      have HK : Hid ((A.x1 - A.x0).toNat = K) := hK.symm
      rw [← hK] at hpM hpB
      have hKx : A.x0 + (K : Int) = A.x1 := by omega
      have hK0 : 0 < K := by omega
      have hm0 : 0 < m := by have := HN.out.2.2.1; omega
      have hbm0 : 0 < bm := by have := HNB.out.2.2.1; omega
      obtain rfl := hL.o.v.addr hm0
      obtain rfl := hL.v.addr hbm0
      obtain ⟨qm, hqm⟩ : ∃ q, q = posN M A.x0 y := ⟨_, rfl⟩
      obtain ⟨qb, hqb⟩ : ∃ q, q = posN B A.x0 y := ⟨_, rfl⟩
      have HI := hid (And.intro hIM (And.intro hIB (And.intro a4 (And.intro hqm.symm (And.intro hqb.symm hm0)))))
      rw [← hqm] at hpM
      rw [← hqb] at hpB
      obtain ⟨p0, p1, p2, p3, p4, pf⟩ := hL.mm
      obtain ⟨q0, q1, q2, q3, q4, qf⟩ := hL.s
      clear hL hIM hIB hqm hqb hK
      go_wp2_with (first
        | (go_at_call 45; with_reducible refine Calls.mono (mrow_of M g off n m A.x0 A.x1 y _ HN.out.1 HN.out.2.1 hn HN.out.2.2.1 HN.out.2.2.2.1 HI.out.1 HI.out.2.2.1) ?_; rintro e w4 ⟨rfl, hb4⟩; rw [HK.out, HI.out.2.2.2.1]; have HL4 := hid (HL.out.below hb4); clear hb4 p0 p1 p2 p3 p4 pf q0 q1 q2 q3 q4 qf r0 r1 r2 r3 rf; obtain ⟨q0, q1, q2, q3, q4, qf⟩ := HL4.out.s; obtain ⟨r0, r1, r2, r3, rf⟩ := HL4.out.a)
        | (go_at_call 45; with_reducible refine Calls.mono (mrow_of B bg boff bn bm A.x0 A.x1 y _ HNB.out.1 HNB.out.2.1 hbn HNB.out.2.2.1 HNB.out.2.2.2.1 HI.out.2.1 HI.out.2.2.1) ?_; rintro e w5 ⟨rfl, hb5⟩; rw [HK.out, HI.out.2.2.2.2.1]; have HL5 := hid (HL4.out.below hb5); clear hb5 q0 q1 q2 q3 q4 qf r0 r1 r2 r3 rf))
      have HL6 : Hid (Ls lo w w.heap.size (w.heap.size + 1) k4 M B A (some ⟨g, off, none⟩) n m g off (some ⟨bg, boff, none⟩) bn bm bg boff h (layG A u F (A.x0 + ((0 : Nat) : Int)) y) w5) := by
        have h1 := HL5.out
        rw [show A.x0 + ((0 : Nat) : Int) = A.x0 by simp, lay_row0]
        exact h1
      clear HL HL4 HL5
      go_loopg [40] K (fun gh v40 wr => ∃ i : Nat, i ≤ K ∧ gh = K - i ∧ v40 = .int .i64 (i : Int) ∧ Ls lo w w.heap.size (w.heap.size + 1) k4 M B A (some ⟨g, off, none⟩) n m g off (some ⟨bg, boff, none⟩) bn bm bg boff h (layG A u F (A.x0 + (i : Int)) y) wr)
      case atStart => exact ⟨0, Nat.zero_le _, rfl, rfl, HL6.out⟩
      case round =>
        clear HL6
        obtain ⟨i, hi, rfl, rfl, hL⟩ := hrel
        have HL := hid hL
        by_cases hil : i < K
        · have hiz : (i : Int) < (K : Int) := by omega
          obtain ⟨p, hp⟩ : ∃ p, p = h (A.x0 + (i : Int)) y := ⟨_, rfl⟩
          obtain ⟨q, hq⟩ : ∃ q, q = F (A.x0 + (i : Int)) y := ⟨_, rfl⟩
          have hbA : hasB A (A.x0 + (i : Int)) y = true := hasB_iff'.2 (by omega)
          have hbM : hasB M (A.x0 + (i : Int)) y = true := hasB_iff'.2 (by omega)
          have hbB : hasB B (A.x0 + (i : Int)) y = true := hasB_iff'.2 (by omega)
          have hposM : posN M (A.x0 + (i : Int)) y = qm + i := by rw [← HI.out.2.2.2.1]; unfold posN; omega
          have hposB : posN B (A.x0 + (i : Int)) y = qb + i := by rw [← HI.out.2.2.2.2.1]; unfold posN; omega
          have hpix : (img B h)[qb + i]? = some p := by rw [hp, ← hposB]; exact at_img h hbB
          have hqix : (img M (layG A u F (A.x0 + (i : Int)) y))[qm + i]? = some q := by rw [hq, ← hposM, at_img _ hbM, lay_at]
          have HPQ : Hid (byteX ⟨p.c0, p.c1, p.c2, p.c3⟩ ∧ byteX ⟨q.c0, q.c1, q.c2, q.c3⟩) := by rw [hp, hq]; exact ⟨HBY.out.2 _ _, HBY.out.1 _ _⟩
          have HST : Hid (putG (layG A u F (A.x0 + (i : Int)) y) y (A.x0 + (i : Int)) (A.x0 + (i : Int) + 1) (fun _ => overX ⟨p.c0, p.c1, p.c2, p.c3⟩ ⟨q.c0, q.c1, q.c2, q.c3⟩) = layG A u F (A.x0 + ((i + 1 : Nat) : Int)) y) := by
            have h1 := lay_step (u := u) (F := F) hbA
            rw [HU.out _ _ hbB, ← hp, ← hq] at h1
            rw [show A.x0 + ((i + 1 : Nat) : Int) = A.x0 + (i : Int) + 1 by omega]
            exact h1
          have HPX : Hid (posN M (A.x0 + (i : Int)) y = qm + i ∧ In M (A.x0 + (i : Int)) (A.x0 + (i : Int) + 1) y) := ⟨hposM, by omega, by omega, by omega, by omega, by omega⟩
          have hqix' := hid hqix
          obtain ⟨c0, c1, c2, c3⟩ := vx_cells hL.v hpix
          have hqm : qm + i < n := by omega
          have hqb : qb + i < bn := by omega
          clear hL hp hq hposM hposB hpix hqix hbA hbM hbB
          go_wp2
          have HL1 : Hid (Ls lo w w.heap.size (w.heap.size + 1) k4 M B A (some ⟨g, off, none⟩) n m g off (some ⟨bg, boff, none⟩) bn bm bg boff h (layG A u F (A.x0 + (i : Int)) y) (wr.alloc (.cells #[.int .u8 p.c0, .int .u8 p.c1, .int .u8 p.c2, .int .u8 p.c3] 28)) ∧ Rc.Has4 (wr.alloc (.cells #[.int .u8 p.c0, .int .u8 p.c1, .int .u8 p.c2, .int .u8 p.c3] 28)) wr.heap.size (.int .u8 p.c0) (.int .u8 p.c1) (.int .u8 p.c2) (.int .u8 p.c3)) := ⟨HL.out.below ((Below.refl _ _).alloc (Nat.le_refl _) _), Rc.Has4.new rfl _ _ _ _ _⟩
          clear c0 c1 c2 c3 HL
          generalize wr.alloc (.cells #[.int .u8 p.c0, .int .u8 p.c1, .int .u8 p.c2, .int .u8 p.c3] 28) = wr1 at HL1 ⊢
          generalize wr.heap.size = k8 at HL1 ⊢
          obtain ⟨e0, e1, e2, e3, ef⟩ := HL1.out.2
          obtain ⟨⟨c0, c1, c2, c3⟩, z0, z1, z2, z3⟩ := ox_cells HL1.out.1.o hqix'.out
          go_region_with (go_at_call 77; with_reducible refine Calls.mono (over4 p.c0 p.c1 p.c2 p.c3 q.c0 q.c1 q.c2 q.c3 _ HPQ.out.1 HPQ.out.2) ?_; rintro e w6 ⟨rfl, hb6⟩; have HL2 := hid (HL1.out.1.below (Rc.via (Below.refl _ _).drew hb6)); clear hb6 c0 c1 c2 c3 z0 z1 z2 z3 e0 e1 e2 e3 ef; obtain ⟨⟨c0, c1, c2, c3⟩, z0, z1, z2, z3⟩ := ox_cells HL2.out.o hqix'.out)
          all_goals
            go_wp2
            go_roundg (K - (i + 1))
            case measure => omega
            case rel =>
              obtain ⟨h1, h2⟩ := ox_pix HL2.out.o HPX.out.1 HPX.out.2 (overX ⟨p.c0, p.c1, p.c2, p.c3⟩ ⟨q.c0, q.c1, q.c2, q.c3⟩)
              rw [HST.out] at h1
              exact ⟨i + 1, by omega, rfl, by simp, HL2.out.to HI.out.2.2.2.2.2 h2 h1⟩
        · obtain rfl : K = i := by omega
          have HL2 : Hid (Ls lo w w.heap.size (w.heap.size + 1) k4 M B A (some ⟨g, off, none⟩) n m g off (some ⟨bg, boff, none⟩) bn bm bg boff h (layO A u F (y + 1)) wr) := by
            have h1 := HL.out
            rw [hKx, lay_row1] at h1
            exact h1
          clear hL HL
          go_wp2
          go_roundg (A.y1 - (y + 1)).toNat
          case measure => omega
          case rel => exact ⟨y + 1, by omega, by omega, rfl, rfl, HL2.out⟩
    · obtain rfl : y = A.y1 := by omega
      clear hL
      go_wp2
      refine bodyPost_end (v := .tuple #[]) (by simp [results, Try.results57, go_sem]) rfl ⟨rfl, HL.out.o, HL.out.but⟩
end Go.Proofs.Ytfgfgfmimejpdaa
