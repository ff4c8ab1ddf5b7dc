/- Slices of rectangles of one's own: made, written into, appended to. -/
import Derived.Test.YtamojciiacmjaaaDoorRgMemA
import Derived.Test.YtamojciiacmjaaaDoorRgRect
import Derived.Test.YtamojciiacmjaaaDoorMemA
import Derived.Deep.RegionLaw
import Derived.BigRegion
import Derived.Laws.MakeOwn
import Derived.Deep.AppendSrc
namespace Go.Proofs.YtamojciiacmjaaaDoor.Rg
open Rg.Num Go.RowKit
set_option linter.unusedVariables false
set_option linter.unusedSimpArgs false

section
variable {P : Program}
theorem info26 : (Tryd.prog.info? 26).map (fun i => (i.zero, i.size, i.bytes)) = some (some (.agg #[.int .i64 0, .int .i64 0, .int .i64 0, .int .i64 0]), 4, 32) := by kernel_rfl
theorem step_append_own {ops : Array Oper} {o : Oper} {a : Act} {w : World} {K : Act → World → Prop} {Q : Exit → Act → World → Prop} {E : Prop}
    (hg : o.guard = none) (s x : Operand) (t tx : TypeId) (hop : o.op = Op.call { callee := Callee.builtin Builtin.append, args := #[s, x], argTypes := #[t, tx] })
    {sz B : Nat} {ao : Option Addr} {n c b off : Nat} {cs : List Value} (h : Oz sz B w ao n c b off cs) (hB : B ≤ w.heap.size)
    (e : TypeId) (i : TypeInfo) (z : Value) (bytes : Nat) (ht : P.underlying t = some (.slice e)) (hi : P.info? e = some i) (hz : i.zero = some z) (hsize : i.size = sz) (hby : i.bytes = bytes) (hzs : z.cells.size = sz)
    (hs : a.eval s = .slice ao n c) (xv : Value) (m : Nat) (news : List Value) (hx : a.eval x = xv) (hsrc : Src P sz tx xv m news w) (h63 : n + m ≤ maxLen) (hbytes : (n + m) * bytes ≤ 140737488355328)
    (hK : ∀ ao' c' b' off' w', Oz sz B w' ao' (n + m) c' b' off' (cs ++ news) → Below B w w' → (∀ g, g < w.heap.size → (0 < c → g ≠ b) → w'.heap[g]? = w.heap[g]?) → (0 < c' → (0 < c ∧ b' = b) ∨ w.heap.size ≤ b') → K (a.put o.dst (.slice ao' (n + m) c')) w') :
    if Region.wanted o (yielded ops a.tmps) = true then Oper.wp P o a w K Q else E := by
  have hw : Region.wanted o (yielded ops a.tmps) = true := by simp [Region.wanted, hg]
  rw [if_pos hw]
  obtain ⟨ao', c', b', off', w', hrun, r1, r2, r3, r4⟩ := run_append_own (P := P) h hB t tx o.type e i z bytes ht hi hz hsize hby hzs xv m news hsrc h63 hbytes
  unfold Oper.wp
  simp [execOp, hop, resolve, invoke, builtin, hs, hx, hrun, Result.andThen]
  exact hK ao' c' b' off' w' r1 r2 r3 r4
theorem wpList_append_mine (w : World) {ops : Array Oper} {rest : List Oper} {o : Oper} {a : Act} {Q : Exit → Act → World → Prop} (hgd : o.guard = none) (s x : Operand) (t tx : TypeId)
    (ho : o.op = .call { callee := .builtin .append, args := #[s, x], argTypes := #[t, tx] })
    {sz B : Nat} {ao : Option Addr} {n c b off : Nat} {cs : List Value} (h : Oz sz B w ao n c b off cs) (hB : B ≤ w.heap.size)
    (e : TypeId) (i : TypeInfo) (z : Value) (bytes : Nat) (ht : P.underlying t = some (.slice e)) (hi : P.info? e = some i) (hz : i.zero = some z) (hsize : i.size = sz) (hby : i.bytes = bytes) (hzs : z.cells.size = sz)
    (hs : a.eval s = .slice ao n c) (xv : Value) (m : Nat) (news : List Value) (hx : a.eval x = xv) (hsrc : Src P sz tx xv m news w) (h63 : n + m ≤ maxLen) (hbytes : (n + m) * bytes ≤ 140737488355328)
    (hK : ∀ ao' c' b' off' w', Oz sz B w' ao' (n + m) c' b' off' (cs ++ news) → Below B w w' → (∀ g, g < w.heap.size → (0 < c → g ≠ b) → w'.heap[g]? = w.heap[g]?) → (0 < c' → (0 < c ∧ b' = b) ∨ w.heap.size ≤ b') → wpList P ops Q rest (a.put o.dst (.slice ao' (n + m) c')) w') : wpList P ops Q (o :: rest) a w := by
  refine wpList_plain hgd fun K hK' => ?_
  obtain ⟨ao', c', b', off', w', hrun, r1, r2, r3, r4⟩ := run_append_own (P := P) h hB t tx o.type e i z bytes ht hi hz hsize hby hzs xv m news hsrc h63 hbytes
  unfold Oper.wp
  simp [execOp, ho, resolve, invoke, builtin, hs, hx, hrun, Result.andThen]
  exact hK' _ _ (hK ao' c' b' off' w' r1 r2 r3 r4)
end
theorem oz_set {sz B : Nat} {w : World} {ao : Option Addr} {n c b off : Nat} {cs : List Value} (h : Oz sz B w ao n c b off cs) {p : Nat} (hp : p < cs.length) (v : Value) : Oz sz B (w.setCell ⟨b, off + p, none⟩ v) ao n c b off (cs.set p v) := by
  obtain ⟨⟨h1, h2, h3, h4, h5⟩, h6, h7⟩ := h
  refine ⟨⟨by simpa using h1, h2, h3, h4, fun j u hu => ?_⟩, fun hc => ⟨(h6 hc).1, by have := (h6 hc).2; simpa [World.setCell] using this⟩, fun j hj => ?_⟩
  · rw [List.getElem?_set] at hu
    split at hu
    · rename_i e
      subst e
      first | rw [if_pos hp] at hu | skip
      rw [World.cell?_setCell_same _ _ _ (h5 p _ (List.getElem?_eq_getElem hp)), hu]
    · rename_i e
      rw [World.cell?_setCell_other _ _ _ _ (by first | (simp; omega) | (simp; done))]
      exact h5 j u hu
  · rw [World.frozen?_setCell]
    refine ⟨?_, (h7 j hj).2⟩
    by_cases e : j = p
    · subst e
      rw [World.cell?_setCell_same _ _ _ (h5 j _ (List.getElem?_eq_getElem hp))]; rfl
    · rw [World.cell?_setCell_other _ _ _ _ (by first | (simp; omega) | (simp; done))]
      exact (h7 j hj).1
theorem ow_at {B : Nat} {w : World} {ao : Option Addr} {n c b off : Nat} {l : List R} (h : Ow B w ao n c b off l) {j : Nat} {r : R} (hj : l[j]? = some r) (o : Nat) (ho : o < 4) : w.frozen? ⟨b, off + j * 4 + o, none⟩ = false ∧ B ≤ b := by
  have hlt : j < l.length := (List.getElem?_eq_some_iff.1 hj).1
  have hl := vw_len h.v
  have hle := h.v.le
  refine ⟨?_, (h.new (by omega)).1⟩
  have := (h.room (j * 4 + o) (by omega)).2
  rwa [← Nat.add_assoc] at this
theorem ow_app {B : Nat} {w : World} {ao : Option Addr} {n c b' off' : Nat} {l : List R} {r : R} (h : Oz 4 B w ao n c b' off' (flat l ++ cells4 r)) : Ow B w ao n c b' off' (l ++ [r]) := by
  rw [show flat l ++ cells4 r = flat (l ++ [r]) by rw [flat_append]; rfl] at h
  exact h
theorem cells4_one {l : List R} : ∀ u ∈ flat l, u.oneCell' = true := by
  intro u hu
  simp only [flat, List.mem_flatMap] at hu
  obtain ⟨r, -, hu⟩ := hu
  simp only [cells4, List.mem_cons, List.not_mem_nil, or_false] at hu
  rcases hu with rfl | rfl | rfl | rfl <;> rfl
theorem srcV {t : TypeId} (ht : Tryd.prog.underlying t = some (.slice 26)) {w : World} {ao : Option Addr} {n c b off : Nat} {l : List R} (h : Vw w ao n c b off l) : Src Tryd.prog 4 t (.slice ao n c) n (flat l) w := by
  by_cases hc : 0 < c
  · obtain rfl := h.addr hc
    exact Src.ofSlice w ht ⟨b, off, none⟩ n c (flat l) h.len (fun j u hu => by rw [Addr.add_lit]; exact h.lies j u hu) cells4_one
  · have hn : n = 0 := by have := h.le; omega
    subst hn
    have hl : l = [] := List.length_eq_zero_iff.1 (vw_len h)
    subst hl
    cases ao with
    | none => exact Src.ofNil w ht c
    | some a => exact Src.ofSlice w ht a 0 c [] (by simp) (fun j u hu => by simp at hu) (fun u hu => by cases hu)
def zeros (n : Nat) : List R := List.replicate n ⟨0, 0, 0, 0⟩
def zeroCs (n : Nat) : Array Value := (flat (zeros n)).toArray
theorem zeros_flat (n : Nat) : flat (zeros n) = List.replicate (n * 4) (Value.int .i64 0) := by
  induction n with
  | zero => rfl
  | succ n ih =>
    show flat (⟨0, 0, 0, 0⟩ :: zeros n) = _
    rw [flat_cons, ih, show (n + 1) * 4 = n * 4 + 1 + 1 + 1 + 1 by omega]
    rfl
theorem made_zero (n : Nat) : madeCells (#[.int .i64 0, .int .i64 0, .int .i64 0, .int .i64 0] : Array Value) (n * 4) = zeroCs n := by
  have e4 : ∀ j : Nat, (#[Value.int .i64 0, .int .i64 0, .int .i64 0, .int .i64 0] : Array Value)[j % 4]! = Value.int .i64 0 := by
    intro j
    have h4 : j % 4 < 4 := Nat.mod_lt _ (by omega)
    generalize j % 4 = m at h4
    match m, h4 with
    | 0, _ => rfl
    | 1, _ => rfl
    | 2, _ => rfl
    | 3, _ => rfl
  unfold zeroCs madeCells
  rw [zeros_flat]
  apply Array.ext
  · simp
  · intro j h1 h2
    rw [Array.getElem_map]
    simp only [Array.getElem_range, List.getElem_toArray, List.getElem_replicate]
    exact e4 j
set_option maxRecDepth 100000 in
theorem run_zeros (n : Nat) (hn : n ≤ 1000000000000) (w : World) : (Instr.makeSlice 31 (.int .i64 (n : Int)) (.int .i64 (n : Int))).run Tryd.prog w = .ok (.slice (some ⟨w.heap.size, 0, none⟩) n n) (w.alloc (.cells (zeroCs n) 26)) := by
  obtain ⟨i, hi, hz0, hz1, hz2⟩ := info_parts info26
  have := run_make (P := Tryd.prog) w 31 26 i _ Tryd.underlying31 hi hz0 .i64 .i64 n n (by omega) (Int.le_refl _) (by rw [hz2]; omega) (by omega)
  rw [hz1] at this
  simp only [Int.toNat_natCast] at this
  rw [this]
  congr 3
  exact made_zero n
theorem flat_set4 : ∀ {l : List R} {j : Nat} (s : R), j < l.length → flat (l.set j s) = ((((flat l).set (j * 4) (.int .i64 s.x0)).set (j * 4 + 1) (.int .i64 s.y0)).set (j * 4 + 2) (.int .i64 s.x1)).set (j * 4 + 3) (.int .i64 s.y1)
  | [], j, s, h => by simp at h
  | a :: l, 0, s, h => by simp [flat_cons]
  | a :: l, j + 1, s, h => by
    have ih := flat_set4 (l := l) (j := j) s (by simpa using h)
    rw [List.set_cons_succ, flat_cons, flat_cons, ih]
    rw [show (j + 1) * 4 = j * 4 + 1 + 1 + 1 + 1 by omega]
    simp [List.set_cons_succ, show j * 4 + 1 + 1 + 1 + 1 + 1 = (j * 4 + 1) + 1 + 1 + 1 + 1 by omega, show j * 4 + 1 + 1 + 1 + 1 + 2 = (j * 4 + 2) + 1 + 1 + 1 + 1 by omega, show j * 4 + 1 + 1 + 1 + 1 + 3 = (j * 4 + 3) + 1 + 1 + 1 + 1 by omega]
theorem ow_set4 {B : Nat} {w : World} {ao : Option Addr} {n c b off : Nat} {l : List R} (h : Ow B w ao n c b off l) {j : Nat} (hj : j < l.length) (s : R) :
    Ow B ((((w.setCell ⟨b, off + j * 4, none⟩ (.int .i64 s.x0)).setCell ⟨b, off + j * 4 + 1, none⟩ (.int .i64 s.y0)).setCell ⟨b, off + j * 4 + 2, none⟩ (.int .i64 s.x1)).setCell ⟨b, off + j * 4 + 3, none⟩ (.int .i64 s.y1)) ao n c b off (l.set j s) := by
  have h0 := oz_set h (p := j * 4) (by rw [flat_len]; omega) (.int .i64 s.x0)
  have h1 := oz_set h0 (p := j * 4 + 1) (by rw [List.length_set, flat_len]; omega) (.int .i64 s.y0)
  have h2 := oz_set h1 (p := j * 4 + 2) (by rw [List.length_set, List.length_set, flat_len]; omega) (.int .i64 s.x1)
  have h3 := oz_set h2 (p := j * 4 + 3) (by rw [List.length_set, List.length_set, List.length_set, flat_len]; omega) (.int .i64 s.y1)
  rw [← flat_set4 s hj] at h3
  simpa only [← Nat.add_assoc] using h3
theorem below_set4 {B : Nat} {W w : World} (h : Below B W w) {b : Nat} (hb : B ≤ b) (p q r s : Nat) (u0 u1 u2 u3 : Value) : Below B W ((((w.setCell ⟨b, p, none⟩ u0).setCell ⟨b, q, none⟩ u1).setCell ⟨b, r, none⟩ u2).setCell ⟨b, s, none⟩ u3) :=
  (((h.setCell (p := ⟨b, p, none⟩) hb _).setCell (p := ⟨b, q, none⟩) hb _).setCell (p := ⟨b, r, none⟩) hb _).setCell (p := ⟨b, s, none⟩) hb _
/-- the four cells of a place of a slice of one's own -/
theorem ow_four {B : Nat} {w : World} {ao : Option Addr} {n c b off : Nat} {l : List R} (h : Ow B w ao n c b off l) {j : Nat} (hj : j < l.length) :
    ao = some ⟨b, off, none⟩ ∧ B ≤ b ∧ b < w.heap.size ∧ ∃ r : R, w.cell? ⟨b, off + j * 4, none⟩ = some (.int .i64 r.x0) ∧ w.cell? ⟨b, off + j * 4 + 1, none⟩ = some (.int .i64 r.y0) ∧ w.cell? ⟨b, off + j * 4 + 2, none⟩ = some (.int .i64 r.x1) ∧ w.cell? ⟨b, off + j * 4 + 3, none⟩ = some (.int .i64 r.y1) ∧
      w.frozen? ⟨b, off + j * 4, none⟩ = false ∧ w.frozen? ⟨b, off + j * 4 + 1, none⟩ = false ∧ w.frozen? ⟨b, off + j * 4 + 2, none⟩ = false ∧ w.frozen? ⟨b, off + j * 4 + 3, none⟩ = false := by
  obtain ⟨r, hr⟩ : ∃ r, l[j]? = some r := ⟨_, List.getElem?_eq_getElem hj⟩
  obtain ⟨e, g0, g1, g2, g3⟩ := vw_at h.v hr
  exact ⟨e, (ow_at h hr 0 (by omega)).2, World.block_lt_of_cell? _ _ g0, r, g0, g1, g2, g3, (ow_at h hr 0 (by omega)).1, (ow_at h hr 1 (by omega)).1, (ow_at h hr 2 (by omega)).1, (ow_at h hr 3 (by omega)).1⟩
theorem ow_four0 {B : Nat} {w : World} {ao : Option Addr} {n c b : Nat} {l : List R} (h : Ow B w ao n c b 0 l) {j : Nat} (hj : j < l.length) :
    ∃ r : R, w.cell? ⟨b, j * 4, none⟩ = some (.int .i64 r.x0) ∧ w.cell? ⟨b, j * 4 + 1, none⟩ = some (.int .i64 r.y0) ∧ w.cell? ⟨b, j * 4 + 2, none⟩ = some (.int .i64 r.x1) ∧ w.cell? ⟨b, j * 4 + 3, none⟩ = some (.int .i64 r.y1) ∧
      w.frozen? ⟨b, j * 4, none⟩ = false ∧ w.frozen? ⟨b, j * 4 + 1, none⟩ = false ∧ w.frozen? ⟨b, j * 4 + 2, none⟩ = false ∧ w.frozen? ⟨b, j * 4 + 3, none⟩ = false := by
  obtain ⟨-, -, -, r, h⟩ := ow_four h hj
  exact ⟨r, by simpa only [Nat.zero_add] using h⟩
theorem ow_set40 {B : Nat} {w : World} {ao : Option Addr} {n c b : Nat} {l : List R} (h : Ow B w ao n c b 0 l) {j : Nat} (hj : j < l.length) (s : R) :
    Ow B ((((w.setCell ⟨b, j * 4, none⟩ (.int .i64 s.x0)).setCell ⟨b, j * 4 + 1, none⟩ (.int .i64 s.y0)).setCell ⟨b, j * 4 + 2, none⟩ (.int .i64 s.x1)).setCell ⟨b, j * 4 + 3, none⟩ (.int .i64 s.y1)) ao n c b 0 (l.set j s) := by
  simpa only [Nat.zero_add] using ow_set4 h hj s
/-- some rectangles in a new block -/
theorem ow_news {B : Nat} {w : World} (hB : B ≤ w.heap.size) (l : List R) (hl : l.length ≤ 1000000000000) (t : TypeId) : Ow B (w.alloc (.cells (flat l).toArray t)) (some ⟨w.heap.size, 0, none⟩) l.length l.length w.heap.size 0 l := by
  have hc : ∀ j, (w.alloc (.cells (flat l).toArray t)).cell? ⟨w.heap.size, j, none⟩ = (flat l)[j]? := fun j => by
    have := World.cell?_alloc_new w (flat l).toArray t j
    rw [this, List.getElem?_toArray]
  refine ⟨⟨by rw [flat_len], Nat.le_refl _, by simp only [maxLen]; omega, fun _ => rfl, fun j u hu => ?_⟩, fun _ => ⟨hB, by simp⟩, fun j hj => ?_⟩
  · rw [Nat.zero_add, hc]; exact hu
  · rw [Nat.zero_add, hc]
    exact ⟨by rw [List.getElem?_eq_getElem (by rw [flat_len]; exact hj)]; rfl, World.frozen?_alloc_new w _ _ j⟩
theorem has4_set {w : World} {k : Nat} {v0 v1 v2 v3 : Value} (h : Rc.Has4 w k v0 v1 v2 v3) (u0 u1 u2 u3 : Value) : Rc.Has4 ((((w.setCell ⟨k, 0, none⟩ u0).setCell ⟨k, 1, none⟩ u1).setCell ⟨k, 2, none⟩ u2).setCell ⟨k, 3, none⟩ u3) k u0 u1 u2 u3 := by
  obtain ⟨s0, s1, s2, s3⟩ := Rc.set4 h.c0 h.c1 h.c2 h.c3 u0 u1 u2 u3
  exact ⟨s0, s1, s2, s3, fun o => by simp [World.frozen?_setCell, h.fz o]⟩
theorem new1 (w : World) (a b c d : Int) : Vw (w.alloc (.cells #[.int .i64 a, .int .i64 b, .int .i64 c, .int .i64 d] 26)) (some ⟨w.heap.size, 0, none⟩) 1 1 w.heap.size 0 [⟨a, b, c, d⟩] := (ow_news (B := 0) (Nat.zero_le _) [⟨a, b, c, d⟩] (by simp) 26).v
theorem src22 (w : World) (r : R) : Src Tryd.prog 4 31 (.slice (some ⟨w.heap.size, 0, none⟩) 1 1) 1 (flat [r]) (w.alloc (.cells #[.int .i64 r.x0, .int .i64 r.y0, .int .i64 r.x1, .int .i64 r.y1] 26)) :=
  srcV Tryd.underlying31 (new1 w r.x0 r.y0 r.x1 r.y1)
theorem retO {B : Nat} {w : World} {e : Ending} {l : List R} (h : RetO B w e l) : ∃ ao n c b off, e = .returned (.slice ao n c) ∧ Ow B w ao n c b off l := h
end Go.Proofs.YtamojciiacmjaaaDoor.Rg
