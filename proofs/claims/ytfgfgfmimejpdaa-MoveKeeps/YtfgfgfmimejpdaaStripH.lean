/- Columns' means, side by side: what stands while they are made. -/
import Derived.Test.YtfgfgfmimejpdaaBoth
import Derived.Test.YtfgfgfmimejpdaaRowsN
import Derived.Deep.DeepCutAuto
namespace Go.Proofs.Ytfgfgfmimejpdaa
open Num Go.RowKit
set_option linter.unusedVariables false
set_option linter.unusedSimpArgs false

theorem But.other {g k : Nat} {w w1 w2 : World} (h : But g w w1) (hb : But k w1 w2) (hk : w.heap.size ≤ k) : But g w w2 :=
  ⟨hb.os.trans h.os, hb.tape.trans h.tape, hb.output.trans h.output, Nat.le_trans h.size hb.size, fun i hi hig => (hb.block i (Nat.lt_of_lt_of_le hi h.size) (by omega)).trans (h.block i hi hig)⟩

/-- 256 sums, all nought -/
def zs73 : Array Value := Array.replicate 1024 (.int .u32 0)
theorem zs73_at (j : Nat) (hj : j < 1024) : zs73[j]? = some (.int .u32 0) := by
  unfold zs73
  rw [Array.getElem?_replicate, if_pos hj]
theorem zs73_ne : zs73 ≠ #[] := by
  intro h
  have := zs73_at 0 (by omega)
  rw [h] at this
  simp at this
theorem info98 : (Try.prog.info? 98).map (fun i => i.zero) = some (some (.agg zs73)) := by kernel_rfl
theorem zero73 (w : World) : (zeroValue 98).run Try.prog w = .ok (.agg zs73) w := by
  have h := info98
  cases hi : Try.prog.info? 98 with
  | none => rw [hi] at h; simp at h
  | some i =>
    rw [hi] at h
    simp at h
    simp [zeroValue, typeInfo, hi, h]
/-- columns that are being made -/
structure Ss (w : World) (lo g off n m : Nat) (B : R) (F : Int → Int → X) (qg qoff qn qm : Nat) (Q : R) (rho : Int → Int → X) (k4 k5 k6 k8 : Nat) (A : R) (KW : Nat) (S : Nat → X) (wr : World) : Prop where
  b : Has5 wr k4 B (some ⟨g, off, none⟩) n m
  a : Rc.Has4 wr k5 (.int .i64 A.x0) (.int .i64 A.y0) (.int .i64 A.x1) (.int .i64 A.y1)
  q : Has5 wr k6 Q (some ⟨qg, qoff, none⟩) qn qm
  o : Ox lo wr (some ⟨g, off, none⟩) n m g off (img B F)
  v : Vx wr (some ⟨qg, qoff, none⟩) qn qm qg qoff (img Q rho)
  s : ∀ i, i < KW → Us wr k8 (i * 4) (S i)
  but : But g w wr
  n4 : k4 ≠ g ∧ k4 ≠ k8
  n5 : k5 ≠ g ∧ k5 ≠ k8
  n6 : k6 ≠ g ∧ k6 ≠ k8
  nq : qg ≠ g ∧ qg ≠ k8
  n8 : k8 ≠ g
  hk : w.heap.size ≤ k8
section
variable {w : World} {lo g off n m : Nat} {B : R} {F : Int → Int → X} {qg qoff qn qm : Nat} {Q : R} {rho : Int → Int → X} {k4 k5 k6 k8 : Nat} {A : R} {KW : Nat} {S : Nat → X} {wr wr' : World}
theorem Ss.below (h : Ss w lo g off n m B F qg qoff qn qm Q rho k4 k5 k6 k8 A KW S wr) (hb : Below wr.heap.size wr wr') : Ss w lo g off n m B F qg qoff qn qm Q rho k4 k5 k6 k8 A KW S wr' :=
  ⟨h.b.below hb, h.a.below hb, h.q.below hb, h.o.below hb, h.v.below hb, fun i hi => (h.s i hi).below hb, h.but.to hb, h.n4, h.n5, h.n6, h.nq, h.n8, h.hk⟩
theorem Ss.sum (h : Ss w lo g off n m B F qg qoff qn qm Q rho k4 k5 k6 k8 A KW S wr) {i : Nat} {s' : X} {S' : Nat → X} (hu : Us wr' k8 (i * 4) s') (hc : Ch k8 (i * 4) 4 wr wr') (h1 : S' i = s') (h2 : ∀ j, j < KW → j ≠ i → S' j = S j) : Ss w lo g off n m B F qg qoff qn qm Q rho k4 k5 k6 k8 A KW S' wr' := by
  refine ⟨h.b.but hc.but h.n4.2, has4_but h.a hc.but h.n5.2, h.q.but hc.but h.n6.2, h.o.but hc.but (fun _ => Ne.symm h.n8), h.v.but hc.but h.nq.2, fun j hj => ?_, h.but.other hc.but h.hk, h.n4, h.n5, h.n6, h.nq, h.n8, h.hk⟩
  by_cases hji : j = i
  · subst hji
    rw [h1]
    exact hu
  · rw [h2 j hj hji]
    exact (h.s j hj).ch hc (by omega)
theorem Ss.re (h : Ss w lo g off n m B F qg qoff qn qm Q rho k4 k5 k6 k8 A KW S wr) {S' : Nat → X} (e : ∀ i, i < KW → S' i = S i) : Ss w lo g off n m B F qg qoff qn qm Q rho k4 k5 k6 k8 A KW S' wr :=
  ⟨h.b, h.a, h.q, h.o, h.v, fun i hi => by rw [e i hi]; exact h.s i hi, h.but, h.n4, h.n5, h.n6, h.nq, h.n8, h.hk⟩
theorem Ss.im (h : Ss w lo g off n m B F qg qoff qn qm Q rho k4 k5 k6 k8 A KW S wr) {F' : Int → Int → X} (e : img B F = img B F') : Ss w lo g off n m B F' qg qoff qn qm Q rho k4 k5 k6 k8 A KW S wr :=
  ⟨h.b, h.a, h.q, by rw [← e]; exact h.o, h.v, h.s, h.but, h.n4, h.n5, h.n6, h.nq, h.n8, h.hk⟩
theorem Ss.pix (h : Ss w lo g off n m B F qg qoff qn qm Q rho k4 k5 k6 k8 A KW S wr) {q i : Nat} {x y : Int} {p : X} (hq : posN B x y = q + i) (hi : In B x (x + 1) y) :
    Ss w lo g off n m B (putG F y x (x + 1) (fun _ => p)) qg qoff qn qm Q rho k4 k5 k6 k8 A KW S ((((wr.setCell ⟨g, off + q * 4 + i * 4, none⟩ (.int .u8 p.c0)).setCell ⟨g, off + q * 4 + i * 4 + 1, none⟩ (.int .u8 p.c1)).setCell ⟨g, off + q * 4 + i * 4 + 2, none⟩ (.int .u8 p.c2)).setCell ⟨g, off + q * 4 + i * 4 + 3, none⟩ (.int .u8 p.c3)) := by
  have hb := but_cells g (off + posN B x y * 4) (flat (line (fun _ => p) x (x + 1))) wr
  have ho := ox_img_put h.o hi (fun _ => p)
  rw [line_one, hq, show off + (q + i) * 4 = off + q * 4 + i * 4 by omega] at hb ho
  exact ⟨h.b.but hb h.n4.1, has4_but h.a hb h.n5.1, h.q.but hb h.n6.1, ho, h.v.but hb h.nq.1, fun j hj => (h.s j hj).but hb h.n8, h.but.trans hb, h.n4, h.n5, h.n6, h.nq, h.n8, h.hk⟩
end
/-- the columns' sums: of the 2 r rows ahead of v -/
def colS (Q A : R) (rho : Int → Int → X) (r : Nat) (v : Int) (i : Nat) : X := sumX (fun u => atX Q rho (A.x0 + (i : Int)) u) (v - 2 * (r : Int)) (2 * r)
/-- .. and of v itself -/
def colT (Q A : R) (rho : Int → Int → X) (r : Nat) (v : Int) (i : Nat) : X := sumX (fun u => atX Q rho (A.x0 + (i : Int)) u) (v - 2 * (r : Int)) (2 * r + 1)
theorem col_in (Q A : R) (rho : Int → Int → X) (r : Nat) (v : Int) (i : Nat) : addX (colS Q A rho r v i) (atX Q rho (A.x0 + (i : Int)) v) = colT Q A rho r v i := by
  unfold colS colT
  rw [sumX, show v - 2 * (r : Int) + ((2 * r : Nat) : Int) = v by omega]
theorem col_out (Q A : R) (rho : Int → Int → X) (r : Nat) (v : Int) (i : Nat) : subX (colT Q A rho r v i) (atX Q rho (A.x0 + (i : Int)) (v - 2 * (r : Int))) = colS Q A rho r (v + 1) i := by
  unfold colS colT
  have := sum_slide (fun u => atX Q rho (A.x0 + (i : Int)) u) (2 * r) (v - 2 * (r : Int))
  rw [this, show v - 2 * (r : Int) + 1 = v + 1 - 2 * (r : Int) by omega]
theorem col_mean (Q A : R) (rho : Int → Int → X) (r : Nat) (v : Int) (i : Nat) : meanX (colT Q A rho r v i) (r : Int) = colG (atX Q rho) r (A.x0 + (i : Int)) (v - (r : Int)) := by
  unfold colT colG
  rw [show v - (r : Int) - (r : Int) = v - 2 * (r : Int) by omega]
theorem col_up {Q A : R} {rho : Int → Int → X} (hb : ∀ x y, byteX (rho x y)) {r : Nat} (hr : r ≤ 255) (v : Int) (i : Nat) : upX 1000000 (colS Q A rho r v i) ∧ upX 1000000 (colT Q A rho r v i) ∧ upX (255 * (2 * (r : Int) + 1)) (colT Q A rho r v i) := by
  have h1 := sum_up (h := fun u => atX Q rho (A.x0 + (i : Int)) u) (fun u => at_byte (B := Q) hb (A.x0 + (i : Int)) u) (v - 2 * (r : Int)) (2 * r)
  have h2 := sum_up (h := fun u => atX Q rho (A.x0 + (i : Int)) u) (fun u => at_byte (B := Q) hb (A.x0 + (i : Int)) u) (v - 2 * (r : Int)) (2 * r + 1)
  unfold colS colT
  unfold upX at *
  omega
/-- within the first ones the new, else the old -/
def part (i : Nat) (T S : Nat → X) (j : Nat) : X := if j < i then T j else S j
theorem part_same (i : Nat) (T S : Nat → X) : part i T S i = S i := by unfold part; rw [if_neg (Nat.lt_irrefl _)]
theorem part_new (i : Nat) (T S : Nat → X) : part (i + 1) T S i = T i := by unfold part; rw [if_pos (Nat.lt_succ_self _)]
theorem part_old (i : Nat) (T S : Nat → X) {j : Nat} (h : j ≠ i) : part (i + 1) T S j = part i T S j := by
  unfold part
  by_cases h1 : j < i
  · rw [if_pos h1, if_pos (by omega)]
  · rw [if_neg h1, if_neg (by omega)]
theorem part_all {K : Nat} (T S : Nat → X) {j : Nat} (h : j < K) : T j = part K T S j := by unfold part; rw [if_pos h]
theorem part_none (T S : Nat → X) (j : Nat) : part 0 T S j = S j := by unfold part; rw [if_neg (Nat.not_lt_zero _)]
theorem put_step (F : Int → Int → X) (y a : Int) (i : Nat) (h : Int → X) : putG (putG F y a (a + (i : Int)) h) y (a + (i : Int)) (a + (i : Int) + 1) (fun _ => h (a + (i : Int))) = putG F y a (a + ((i + 1 : Nat) : Int)) h := by
  funext x v
  unfold putG
  by_cases h1 : v = y ∧ a + (i : Int) ≤ x ∧ x < a + (i : Int) + 1
  · rw [if_pos h1, if_pos (by omega), show x = a + (i : Int) by omega]
  · rw [if_neg h1]
    by_cases h2 : v = y ∧ a ≤ x ∧ x < a + (i : Int)
    · rw [if_pos h2, if_pos (by omega)]
    · rw [if_neg h2, if_neg (by omega)]
theorem put_none (F : Int → Int → X) (y a : Int) (h : Int → X) : putG F y a (a + ((0 : Nat) : Int)) h = F := by
  funext x v
  unfold putG
  rw [if_neg (by omega)]
theorem area_row (A : R) (U F : Int → Int → X) {y : Int} (hy : A.y0 ≤ y) : putG (areaG ⟨A.x0, A.y0, A.x1, y⟩ U F) y A.x0 A.x1 (fun x => U x y) = areaG ⟨A.x0, A.y0, A.x1, y + 1⟩ U F := by
  funext x v
  unfold putG areaG hasB
  simp only [decide_eq_true_eq]
  by_cases h1 : v = y ∧ A.x0 ≤ x ∧ x < A.x1
  · rw [if_pos h1, if_pos (by omega), h1.1]
  · rw [if_neg h1]
    by_cases h2 : A.x0 ≤ x ∧ x < A.x1 ∧ A.y0 ≤ v ∧ v < y
    · rw [if_pos h2, if_pos (by omega)]
    · rw [if_neg h2, if_neg (by omega)]
theorem area_ahead (A : R) (U F : Int → Int → X) {y : Int} (hy : y ≤ A.y0) : areaG ⟨A.x0, A.y0, A.x1, y⟩ U F = F := by
  funext x v
  unfold areaG hasB
  rw [if_neg (by simp only [decide_eq_true_eq]; omega)]
end Go.Proofs.Ytfgfgfmimejpdaa
