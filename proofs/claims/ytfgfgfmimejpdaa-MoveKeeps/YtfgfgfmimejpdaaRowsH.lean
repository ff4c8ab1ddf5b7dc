/- Rows of a buffer that is being made. -/
import Derived.Test.YtfgfgfmimejpdaaAlongR
import Derived.Test.YtfgfgfmimejpdaaJumps
import Derived.Test.YtfgfgfmimejpdaaNewB
import Derived.Test.YtfgfgfmimejpdaaWins
namespace Go.Proofs.Ytfgfgfmimejpdaa
open Num Go.RowKit
set_option linter.unusedVariables false
set_option linter.unusedSimpArgs false

/-- are two pixels the same? -/
def eqB (r g b a p q s t : Int) : Bool := decide ((⟨r, g, b, a⟩ : X) = ⟨p, q, s, t⟩)
theorem eqX (r g b a p q s t : Int) (w : World) : (Op.equalIn 10000 28 (.agg #[.int .u8 r, .int .u8 g, .int .u8 b, .int .u8 a]) (.agg #[.int .u8 p, .int .u8 q, .int .u8 s, .int .u8 t])).run Try.prog w = .ok (eqB r g b a p q s t) w := by
  have u3 := Try.underlying5
  have a3 := Try.isAgg5
  have z3 := Try.sizeOf5
  rw [show (10000 : Nat) = 9999 + 1 from rfl, Op.equalIn]
  simp only [Sem.run_bind, run_underlying Try.underlying28, Result.andThen_ok]
  simp only [Std.Legacy.Range.forIn_eq_forIn_range', Std.Legacy.Range.size, Nat.sub_zero, Nat.add_sub_cancel, Nat.div_one, List.range'_succ, List.range'_zero, List.forIn_cons, List.forIn_nil]
  by_cases h1 : r = p
  · by_cases h2 : g = q
    · by_cases h3 : b = s
      · by_cases h4 : a = t
        · subst h1; subst h2; subst h3; subst h4; go_simp; simp [eqB]
        · subst h1; subst h2; subst h3; go_simp; simp [eqB, h4]
      · subst h1; subst h2; go_simp; simp [eqB, h3]
    · subst h1; go_simp; simp [eqB, h2]
  · go_simp; simp [eqB, h1]
theorem eqB_yes {p q : X} (h : p = q) : eqB p.c0 p.c1 p.c2 p.c3 q.c0 q.c1 q.c2 q.c3 = true := decide_eq_true h
theorem eqB_no {p q : X} (h : p ≠ q) : eqB p.c0 p.c1 p.c2 p.c3 q.c0 q.c1 q.c2 q.c3 = false := decide_eq_false h

/-- pixels are written over some of a slice's, by whatever way -/
theorem ox_ch {lo : Nat} {w w' : World} {ao : Option Addr} {n c b off : Nat} {l : List X} (h : Ox lo w ao n c b off l) {s : Nat} {news : List X} (hs : s + news.length ≤ n) (hc : Ch b (off + s * 4) (news.length * 4) w w') (hL : Lies w' b (off + s * 4) (flat news)) :
    Ox lo w' ao n c b off (setL l s news) := by
  have hl := vx_len h.v
  have hle := h.v.le
  refine ⟨⟨?_, h.v.le, h.v.max, h.v.addr, ?_⟩, fun hc0 => ?_, ?_⟩
  · rw [flat_len, setL_len (by omega), hl]
  · rw [flat_set]
    intro j u hu
    have htk : ((flat l).take (s * 4)).length = s * 4 := by rw [List.length_take, flat_len]; omega
    have hfl : (flat news).length = news.length * 4 := flat_len news
    by_cases h1 : j < s * 4
    · rw [List.append_assoc, List.getElem?_append_left (by omega), List.getElem?_take, if_pos h1] at hu
      rw [hc.out _ (by omega)]
      exact h.v.lies j u hu
    · rw [List.append_assoc, List.getElem?_append_right (by omega), htk] at hu
      by_cases h2 : j - s * 4 < (flat news).length
      · rw [List.getElem?_append_left h2] at hu
        have := hL _ _ hu
        rwa [show off + s * 4 + (j - s * 4) = off + j by omega] at this
      · rw [List.getElem?_append_right (by omega), List.getElem?_drop, show s * 4 + (flat news).length + (j - s * 4 - (flat news).length) = j by omega] at hu
        rw [hc.out _ (by omega)]
        exact h.v.lies j u hu
  · exact ⟨(h.new hc0).1, Nat.lt_of_lt_of_le (h.new hc0).2 hc.but.size⟩
  · intro j hj
    have hr := h.room j hj
    rw [hc.fz]
    refine ⟨?_, hr.2⟩
    by_cases hin : s * 4 ≤ j ∧ j < s * 4 + news.length * 4
    · have hlt : j - s * 4 < (flat news).length := by rw [flat_len]; omega
      have := hL _ _ (List.getElem?_eq_getElem hlt)
      rw [show off + s * 4 + (j - s * 4) = off + j by omega] at this
      rw [this]
      rfl
    · rw [hc.out _ (by omega)]
      exact hr.1
theorem ox_img_ch {lo : Nat} {w w' : World} {ao : Option Addr} {n m g off : Nat} {B : R} {f : Int → Int → X} (h : Ox lo w ao n m g off (img B f)) {a b y : Int} (hi : In B a b y) {hh : Int → X} (hc : Ch g (off + posN B a y * 4) ((b - a).toNat * 4) w w') (hL : Lies w' g (off + posN B a y * 4) (flat (line hh a b))) :
    Ox lo w' ao n m g off (img B (putG f y a b hh)) := by
  have hl := vx_len h.v
  rw [img_len] at hl
  have he := pos_end ⟨hi.y0, hi.y1⟩ hi.x0 hi.le hi.x1
  have := ox_ch h (s := posN B a y) (news := line hh a b) (by rw [line_len]; omega) (by rw [line_len]; exact hc) hL
  rwa [img_put f hh ⟨hi.y0, hi.y1⟩ hi.x0 hi.le hi.x1] at this
theorem line_shift (h : Int → X) (a b : Int) : line (fun x => h (a + x)) 0 (b - a) = line h a b := by
  unfold line
  rw [show (b - a - 0).toNat = (b - a).toNat by omega]
  apply List.map_congr_left
  intro j _
  dsimp only
  rw [show a + (0 + (j : Int)) = a + (j : Int) by omega]

/-- rows so far -/
def tillG (u : Int → Int → X) (y : Int) (x v : Int) : X := if v < y then u x v else noX
theorem till_row {Q : R} {u : Int → Int → X} {y : Int} : img Q (putG (tillG u y) y Q.x0 Q.x1 (fun x => u x y)) = img Q (tillG u (y + 1)) := by
  apply img_ext
  intro x v hb
  have := of_decide_eq_true hb
  unfold putG tillG
  by_cases h1 : v = y
  · subst h1
    rw [if_pos (by omega), if_pos (by omega)]
  · rw [if_neg (by omega)]
    by_cases h2 : v < y
    · rw [if_pos h2, if_pos (by omega)]
    · rw [if_neg h2, if_neg (by omega)]
theorem till_none {Q : R} {u : Int → Int → X} {y : Int} (h : ∀ x, Q.x0 ≤ x → x < Q.x1 → u x y = noX) : img Q (tillG u y) = img Q (tillG u (y + 1)) := by
  apply img_ext
  intro x v hb
  have := of_decide_eq_true hb
  unfold tillG
  by_cases h1 : v = y
  · subst h1
    rw [if_neg (by omega), if_pos (by omega), h x (by omega) (by omega)]
  · by_cases h2 : v < y
    · rw [if_pos h2, if_pos (by omega)]
    · rw [if_neg h2, if_neg (by omega)]
theorem till_first {Q : R} {u : Int → Int → X} : img Q (fun _ _ => noX) = img Q (tillG u Q.y0) := by
  apply img_ext
  intro x v hb
  have := of_decide_eq_true hb
  unfold tillG
  rw [if_neg (by omega)]
theorem till_last {Q : R} {u : Int → Int → X} : img Q (tillG u Q.y1) = img Q u := by
  apply img_ext
  intro x v hb
  have := of_decide_eq_true hb
  unfold tillG
  rw [if_pos (by omega)]

/-- where the pixels stand of which means are taken -/
structure Fits (B Q : R) (r : Nat) : Prop where
  y0 : B.y0 ≤ Q.y0
  y1 : Q.y1 ≤ B.y1
  x0 : B.x0 ≤ Q.x0 + (r : Int)
  x1 : Q.x1 ≤ B.x1 + (r : Int)
  q : Q.x0 < Q.x1 ∧ Q.y0 < Q.y1
  b : B.x0 < B.x1
def firstX (B Q : R) (r : Nat) : Int := mx B.x0 (Q.x0 - (r : Int))
def endX (B Q : R) (r : Nat) : Int := mn B.x1 (Q.x1 + (r : Int))
/-- what the row's means are, by the plane -/
theorem row_plane {B Q : R} {r : Nat} (hF : Fits B Q r) {f : Int → Int → X} {x y : Int} (hx : Q.x0 ≤ x ∧ x < Q.x1) (hy : Q.y0 ≤ y ∧ y < Q.y1) :
    rowF (line (fun v => f v y) (firstX B Q r) (endX B Q r)) (Q.x0 - firstX B Q r) r (x - Q.x0) = rowG (atX B f) r x y := by
  obtain ⟨h1, h2, h3, h4, ⟨h5, h6⟩, h7⟩ := hF
  unfold rowF rowG
  rw [sum_ext (g := fun v => atX B f v y) _ (x - (r : Int)) _ (fun k hk => ?_)]
  rw [gl_line]
  unfold atX hasB
  unfold firstX endX mx mn
  by_cases hin : B.x0 ≤ x - (r : Int) + (k : Int) ∧ x - (r : Int) + (k : Int) < B.x1
  · rw [if_pos (by omega), if_pos (by simp only [decide_eq_true_eq]; omega)]
    congr 1
    omega
  · rw [if_neg (by omega), if_neg (by simp only [decide_eq_true_eq]; omega)]
theorem row_none' {B Q : R} {r : Nat} (hF : Fits B Q r) {f : Int → Int → X} {y : Int} (hy : Q.y0 ≤ y ∧ y < Q.y1) (h : ∀ v, firstX B Q r ≤ v → v < endX B Q r → f v y = noX) (x : Int) (hx : Q.x0 ≤ x) (hx' : x < Q.x1) : rowG (atX B f) r x y = noX := by
  obtain ⟨h1, h2, h3, h4, ⟨h5, h6⟩, h7⟩ := hF
  apply row_none
  intro v h8 h9
  unfold atX
  split
  · rename_i hb
    have := of_decide_eq_true hb
    apply h
    · unfold firstX mx; omega
    · unfold endX mn; omega
  · rfl

/-- the buffers while rows are made -/
structure Ws (w : World) (k3 k6 k7 : Nat) (B Q : R) (n m g off nn nm ng noff : Nat) (f F : Int → Int → X) (wr : World) : Prop where
  s : Has5 wr k3 B (some ⟨g, off, none⟩) n m
  z : Has5 wr k6 ⟨0, 0, 0, 0⟩ none 0 0
  h : Has5 wr k7 Q (some ⟨ng, noff, none⟩) nn nm
  o : Ox w.heap.size wr (some ⟨ng, noff, none⟩) nn nm ng noff (img Q F)
  v : Vx wr (some ⟨g, off, none⟩) n m g off (img B f)
  low : Below w.heap.size w wr
  a3 : k3 ≠ ng
  a6 : k6 ≠ ng
  a7 : k7 ≠ ng
  ag : g ≠ ng
  lo : w.heap.size ≤ ng
  lt : ng < wr.heap.size
section
variable {w : World} {k3 k6 k7 : Nat} {B Q : R} {n m g off nn nm ng noff : Nat} {f F : Int → Int → X} {wr wr' : World}
theorem Ws.below (h : Ws w k3 k6 k7 B Q n m g off nn nm ng noff f F wr) (hb : Below wr.heap.size wr wr') : Ws w k3 k6 k7 B Q n m g off nn nm ng noff f F wr' :=
  ⟨h.s.below hb, h.z.below hb, h.h.below hb, h.o.below hb, h.v.below hb, Rc.via h.low hb, h.a3, h.a6, h.a7, h.ag, h.lo, Nat.lt_of_lt_of_le h.lt hb.size⟩
theorem Ws.row (h : Ws w k3 k6 k7 B Q n m g off nn nm ng noff f F wr) {a b y : Int} (hi : In Q a b y) {hh : Int → X} (hc : Ch ng (noff + posN Q a y * 4) ((b - a).toNat * 4) wr wr') (hL : Lies wr' ng (noff + posN Q a y * 4) (flat (line hh a b))) :
    Ws w k3 k6 k7 B Q n m g off nn nm ng noff f (putG F y a b hh) wr' :=
  ⟨h.s.but hc.but h.a3, h.z.but hc.but h.a6, h.h.but hc.but h.a7, ox_img_ch h.o hi hc hL, h.v.but hc.but h.ag, h.low.trans (hc.but.low h.lo h.low.size), h.a3, h.a6, h.a7, h.ag, h.lo, Nat.lt_of_lt_of_le h.lt hc.but.size⟩
theorem Ws.room (h : Ws w k3 k6 k7 B Q n m g off nn nm ng noff f F wr) {a b y : Int} (hi : In Q a b y) : Room wr ng (noff + posN Q a y * 4) (b - a).toNat := fun j hj => ox_room h.o hi j hj
theorem Ws.re (h : Ws w k3 k6 k7 B Q n m g off nn nm ng noff f F wr) {F' : Int → Int → X} (e : img Q F = img Q F') : Ws w k3 k6 k7 B Q n m g off nn nm ng noff f F' wr :=
  ⟨h.s, h.z, h.h, by rw [← e]; exact h.o, h.v, h.low, h.a3, h.a6, h.a7, h.ag, h.lo, h.lt⟩
end
end Go.Proofs.Ytfgfgfmimejpdaa
