/- What a copy makes of a buffer, row by row. -/
import Derived.Test.YtfgfgfmimejpdaaFillB
import Derived.Test.YtfgfgfmimejpdaaShift
import Derived.Test.YtfgfgfmimejpdaaGrows
namespace Go.Proofs.Ytfgfgfmimejpdaa
open Num Go.RowKit
set_option linter.unusedVariables false
set_option linter.unusedSimpArgs false

theorem sh_has {F : R} {dx dy x y : Int} (hx : -4398046511104 ≤ x ∧ x < 4398046511104) (hy : -4398046511104 ≤ y ∧ y < 4398046511104) : hasB (sh F dx dy) x y = hasB F (x - dx) (y - dy) := by
  unfold hasB sh cutN mx mn
  rw [decide_eq_decide]
  dsimp only
  omega
/-- what is covered of an area -/
theorem cov_has {B r F : R} {dx dy x y : Int} (ho : Ok B) (h : hasB (meet B r) x y = true) : hasB (meet (meet B r) (sh F dx dy)) x y = hasB F (x - dx) (y - dy) := by
  rw [has_meet, h, Bool.true_and]
  rw [has_meet] at h
  have h1 := of_decide_eq_true (Bool.and_eq_true _ _ ▸ h : _ ∧ _).1
  obtain ⟨⟨a0, a1⟩, ⟨b0, b1⟩, ⟨c0, c1⟩, d0, d1⟩ := ho
  exact sh_has (by omega) (by omega)

/-- a row that isn't covered -/
theorem copy_bare {A : R} {u f : Int → Int → X} {dx dy y : Int} (hy : A.y0 ≤ y) (hc : ∀ x, A.x0 ≤ x → x < A.x1 → u (x - dx) (y - dy) = noX) :
    putG (copyG ⟨A.x0, A.y0, A.x1, y⟩ u dx dy f) y A.x0 A.x1 (fun _ => noX) = copyG ⟨A.x0, A.y0, A.x1, y + 1⟩ u dx dy f := by
  funext x v
  unfold putG copyG hasB
  simp only [decide_eq_true_eq]
  by_cases h1 : v = y ∧ A.x0 ≤ x ∧ x < A.x1
  · rw [if_pos h1, if_pos (by omega), h1.1, hc x h1.2.1 h1.2.2]
  · rw [if_neg h1]
    by_cases h2 : A.x0 ≤ x ∧ x < A.x1 ∧ A.y0 ≤ v ∧ v < y
    · rw [if_pos h2, if_pos (by omega)]
    · rw [if_neg h2, if_neg (by omega)]
/-- .. one that is, in part -/
theorem copy_part {A C : R} {u e f : Int → Int → X} {dx dy y : Int} (hy : A.y0 ≤ y) (h0 : A.x0 ≤ C.x0) (h1 : C.x0 ≤ C.x1) (h2 : C.x1 ≤ A.x1) (hc : ∀ x, A.x0 ≤ x → x < A.x1 → u (x - dx) (y - dy) = if C.x0 ≤ x ∧ x < C.x1 then e (x - dx) (y - dy) else noX) :
    putG (putG (putG (copyG ⟨A.x0, A.y0, A.x1, y⟩ u dx dy f) y A.x0 C.x0 (fun _ => noX)) y C.x0 C.x1 (fun x => e (x - dx) (y - dy))) y C.x1 A.x1 (fun _ => noX) = copyG ⟨A.x0, A.y0, A.x1, y + 1⟩ u dx dy f := by
  funext x v
  unfold putG copyG hasB
  simp only [decide_eq_true_eq]
  by_cases hv : v = y
  · subst hv
    by_cases hx : A.x0 ≤ x ∧ x < A.x1
    · rw [if_pos (c := A.x0 ≤ x ∧ x < A.x1 ∧ A.y0 ≤ v ∧ v < v + 1) (by omega), hc x hx.1 hx.2]
      by_cases a1 : C.x1 ≤ x
      · rw [if_pos (by omega), if_neg (by omega)]
      · rw [if_neg (by omega)]
        by_cases a2 : C.x0 ≤ x
        · rw [if_pos (by omega), if_pos (by omega)]
        · rw [if_neg (by omega), if_pos (by omega), if_neg (by omega)]
    · rw [if_neg (by omega), if_neg (by omega), if_neg (by omega), if_neg (by omega), if_neg (by omega)]
  · rw [if_neg (by omega), if_neg (by omega), if_neg (by omega)]
    by_cases h3 : A.x0 ≤ x ∧ x < A.x1 ∧ A.y0 ≤ v ∧ v < y
    · rw [if_pos h3, if_pos (by omega)]
    · rw [if_neg h3, if_neg (by omega)]
theorem copy_start (A : R) (u f : Int → Int → X) (dx dy : Int) : copyG ⟨A.x0, A.y0, A.x1, A.y0⟩ u dx dy f = f := by
  funext x v
  unfold copyG hasB
  rw [if_neg (by simp only [decide_eq_true_eq]; omega)]
theorem copy_meet {B r : R} {u f : Int → Int → X} {dx dy : Int} : img B (copyG (meet B r) u dx dy f) = img B (copyG r u dx dy f) := by
  apply img_ext
  intro x y h
  unfold copyG
  rw [has_meet, h]
  simp
theorem meet_edges (B r : R) : (meet B r).x0 ≤ (meet B r).x1 ∧ (meet B r).y0 ≤ (meet B r).y1 := by
  unfold meet
  rcases e : empB ⟨mx B.x0 r.x0, mx B.y0 r.y0, mn B.x1 r.x1, mn B.y1 r.y1⟩ with _ | _
  · rw [orN_no e]
    have := of_some e
    omega
  · rw [orN_yes e]
    decide

theorem meet_some {B r : R} (h : (meet B r).y0 < (meet B r).y1) : empB (meet B r) = false := by
  unfold meet at h ⊢
  rcases e : empB ⟨mx B.x0 r.x0, mx B.y0 r.y0, mn B.x1 r.x1, mn B.y1 r.y1⟩ with _ | _
  · rw [orN_no e]; exact e
  · rw [orN_yes e] at h
    unfold nil at h
    dsimp only at h
    omega
theorem vz_but {sz g : Nat} {W w : World} {ao : Option Addr} {n c b off : Nat} {cs : List Value} (h : Vz sz W ao n c b off cs) (hb : But g W w) (hg : 0 < cs.length → b ≠ g) : Vz sz w ao n c b off cs := by
  refine ⟨h.len, h.le, h.max, h.addr, fun j u hu => ?_⟩
  have hj : j < cs.length := (List.getElem?_eq_some_iff.1 hu).1
  exact (World.cell?_of_block (a := ⟨b, off + j, none⟩) (hb.block b (h.lies.lt (by omega)) (hg (by omega)))).trans (h.lies j u hu)

/-- a buffer that is being copied into -/
structure Cs (lo : Nat) (W : World) (k g off n m : Nat) (ao : Option Addr) (kf ka kc : Nat) (B A C F : R) (fo : Option Addr) (fn fm fg foff : Nat) (E f : Int → Int → X) (w : World) : Prop where
  b : Has5 w k B ao n m
  a : Rc.Has4 w ka (.int .i64 A.x0) (.int .i64 A.y0) (.int .i64 A.x1) (.int .i64 A.y1)
  c : Rc.Has4 w kc (.int .i64 C.x0) (.int .i64 C.y0) (.int .i64 C.x1) (.int .i64 C.y1)
  s : Has5 w kf F fo fn fm
  o : Ox lo w ao n m g off (img B f)
  v : Vx w fo fn fm fg foff (img F E)
  but : But g W w
  ne : 0 < m → k ≠ g ∧ ka ≠ g ∧ kc ≠ g ∧ kf ≠ g ∧ (0 < fn → fg ≠ g)
theorem Cs.below {lo : Nat} {W : World} {k g off n m : Nat} {ao : Option Addr} {kf ka kc : Nat} {B A C F : R} {fo : Option Addr} {fn fm fg foff : Nat} {E f : Int → Int → X} {w w' : World} (h : Cs lo W k g off n m ao kf ka kc B A C F fo fn fm fg foff E f w) (hb : Below w.heap.size w w') : Cs lo W k g off n m ao kf ka kc B A C F fo fn fm fg foff E f w' :=
  ⟨h.b.below hb, h.a.below hb, h.c.below hb, h.s.below hb, h.o.below hb, h.v.below hb, h.but.to hb, h.ne⟩
theorem Cs.put {lo : Nat} {W : World} {k g off n m : Nat} {ao : Option Addr} {kf ka kc : Nat} {B A C F : R} {fo : Option Addr} {fn fm fg foff : Nat} {E f : Int → Int → X} {w : World} (h : Cs lo W k g off n m ao kf ka kc B A C F fo fn fm fg foff E f w) (hm : 0 < m) {a b y : Int} (hi : In B a b y) (hh : Int → X) :
    Cs lo W k g off n m ao kf ka kc B A C F fo fn fm fg foff E (putG f y a b hh) (w.setCells g (off + posN B a y * 4) (flat (line hh a b))) := by
  have hb := but_cells g (off + posN B a y * 4) (flat (line hh a b)) w
  obtain ⟨n1, n2, n3, n4, n5⟩ := h.ne hm
  refine ⟨h.b.but hb n1, has4_but h.a hb n2, has4_but h.c hb n3, h.s.but hb n4, ox_img_put h.o hi hh, vz_but h.v hb (fun hl => n5 ?_), h.but.trans hb, h.ne⟩
  have := h.v.len
  omega
theorem Cs.sf {lo : Nat} {W : World} {k g off n m : Nat} {ao : Option Addr} {kf ka kc : Nat} {B A C F : R} {fo : Option Addr} {fn fm fg foff : Nat} {E f : Int → Int → X} {w : World} (h : Cs lo W k g off n m ao kf ka kc B A C F fo fn fm fg foff E f w) : S9c kf kc F C (.slice fo fn fm) w := ⟨h.s.c0, h.s.c1, h.s.c2, h.s.c3, h.s.c4, h.c.c0, h.c.c1, h.c.c2, h.c.c3⟩
/-- a row cleared, from a to b -/
theorem Cs.clear {lo : Nat} {W : World} {k g off n m : Nat} {ao : Option Addr} {kf ka kc : Nat} {B A C F : R} {fo : Option Addr} {fn fm fg foff : Nat} {E f : Int → Int → X} {w : World} (h : Cs lo W k g off n m ao kf ka kc B A C F fo fn fm fg foff E f w) (hm : 0 < m) {a b y : Int} (hi : In B a b y) {so : Option Addr} {K c o : Nat} (hK : K = (b - a).toNat) (hso : 0 < K → so = some ⟨g, o, none⟩) (ho : o = off + posN B a y * 4) (ty : TypeId) :
    LFine Try.prog #[24] ty w (.slice so K c) ∧ Cs lo W k g off n m ao kf ka kc B A C F fo fn fm fg foff E (putG f y a b (fun _ => noX)) (clW Try.prog #[24] ty w (.slice so K c)) := by
  subst ho
  subst hK
  obtain ⟨h1, h2⟩ := cl_row (ty := ty) (c := c) hso (ox_room h.o hi)
  refine ⟨h1, ?_⟩
  rw [h2, none4_line]
  exact h.put hm hi _
/-- a row copied, from a to b -/
theorem Cs.cp {lo : Nat} {W : World} {k g off n m : Nat} {ao : Option Addr} {kf ka kc : Nat} {B A C F : R} {fo : Option Addr} {fn fm fg foff : Nat} {E f : Int → Int → X} {w : World} (h : Cs lo W k g off n m ao kf ka kc B A C F fo fn fm fg foff E f w) (hm : 0 < m) {a b y dx dy : Int} (hi : In B a b y) (hf : In F (a - dx) (b - dx) (y - dy)) {K c c' o o' : Nat} (hK : K = (b - a).toNat) (ho : o = off + posN B a y * 4) (ho' : o' = foff + posN F (a - dx) (y - dy) * 4) (ty : TypeId) :
    CFine Try.prog #[24, 24] ty w (.slice (some ⟨g, o, none⟩) K c) (.slice (some ⟨fg, o', none⟩) K c') ∧ Cs lo W k g off n m ao kf ka kc B A C F fo fn fm fg foff E (putG f y a b (fun x => E (x - dx) (y - dy))) (cpW Try.prog #[24, 24] ty w (.slice (some ⟨g, o, none⟩) K c) (.slice (some ⟨fg, o', none⟩) K c')) := by
  subst ho
  subst hK
  subst ho'
  have h1 := vx_line h.v hf
  have e : line (fun x => E x (y - dy)) (a - dx) (b - dx) = line (fun x => E (x - dx) (y - dy)) a b := by
    unfold line
    rw [show (b - dx - (a - dx)).toNat = (b - a).toNat by omega]
    apply List.map_congr_left
    intro j hj
    congr 1
    omega
  rw [e] at h1
  obtain ⟨h2, h3⟩ := cp_row (ty := ty) (c := c) (c' := c') (line_len (fun x => E (x - dx) (y - dy)) a b) h1 (ox_room h.o hi)
  refine ⟨h2, ?_⟩
  rw [h3]
  exact h.put hm hi _
end Go.Proofs.Ytfgfgfmimejpdaa
