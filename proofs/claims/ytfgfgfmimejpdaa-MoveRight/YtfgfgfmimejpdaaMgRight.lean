import Derived.ProofKit
import Derived.OpenShut
import Derived.RowKit3
import Derived.Carry
import Derived.Deep.Slices
import Derived.Laws.IdiomArrays
import Derived.Test.YtfgfgfmimejpdaaFlat
import Derived.Test.YtfgfgfmimejpdaaBlurNum
import Derived.Test.YtfgfgfmimejpdaaMean
import Derived.BigQuiet
import Derived.Deep.QuietTactic
import Derived.Test.YtfgfgfmimejpdaaFine
import Derived.Test.YtfgfgfmimejpdaaAtB
import Derived.Test.YtfgfgfmimejpdaaRightB
import Derived.Test.YtfgfgfmimejpdaaMoveNum
import Derived.Deep.LoopGhost
import Derived.Deep.Light
import Derived.Test.YtfgfgfmimejpdaaSmall
import Derived.Test.YtfgfgfmimejpdaaTileB
import Derived.Test.YtfgfgfmimejpdaaMoves1
/- How a buffer, a rectangle and a pixel that are handed in are read. -/
namespace Go.Proofs.Ytfgfgfmimejpdaa
open Num Go.ChangeShapes Go.WideShapes Go.ChangeAt Go.RowKit Go.Deep

theorem cells3 : Try.prog.cellsOf 3 = 1 := by kernel_rfl
theorem cells5 : Try.prog.cellsOf 5 = 1 := by kernel_rfl
theorem cells23 : Try.prog.cellsOf 23 = 4 := by kernel_rfl
theorem cells24 : Try.prog.cellsOf 24 = 1 := by kernel_rfl
theorem cells26 : Try.prog.cellsOf 26 = 5 := by kernel_rfl
theorem cells28 : Try.prog.cellsOf 28 = 4 := by kernel_rfl
theorem laidOut : laidOutB Try.prog = true := by kernel_rfl

theorem u8_wf {n : Int} (h : (Lit.int .u8 n).wf = true) : 0 ≤ n ∧ n ≤ 255 := by
  simp [Lit.wf] at h
  have h1 : IntKind.u8.min = 0 := by decide
  have h2 : IntKind.u8.max = 255 := by decide
  omega
theorem list4 {α : Type} (l : List α) (h : (⟨l⟩ : Array α).size = 4) : ∃ a b c d, l = [a, b, c, d] := by
  match l, h with
  | [a, b, c, d], _ => exact ⟨a, b, c, d, rfl⟩
theorem list5 {α : Type} (l : List α) (h : (⟨l⟩ : Array α).size = 5) : ∃ a b c d e, l = [a, b, c, d, e] := by
  match l, h with
  | [a, b, c, d, e], _ => exact ⟨a, b, c, d, e, rfl⟩

theorem lies_of {w : World} {b off : Nat} : ∀ {l : List X}, (∀ i r, l[i]? = some r → w.cell? ⟨b, off + i * 4, none⟩ = some (.int .u8 r.c0) ∧ w.cell? ⟨b, off + i * 4 + 1, none⟩ = some (.int .u8 r.c1) ∧ w.cell? ⟨b, off + i * 4 + 2, none⟩ = some (.int .u8 r.c2) ∧ w.cell? ⟨b, off + i * 4 + 3, none⟩ = some (.int .u8 r.c3)) → Lies w b off (flat l) := by
  intro l h j u hu
  have hj : j < (flat l).length := (List.getElem?_eq_some_iff.1 hu).1
  rw [flat_len] at hj
  obtain ⟨r, hr⟩ : ∃ r, l[j / 4]? = some r := ⟨_, List.getElem?_eq_getElem (by omega)⟩
  obtain ⟨c0, c1, c2, c3⟩ := h _ r hr
  obtain ⟨e0, e1, e2, e3⟩ := flat_at hr
  have hm : j % 4 = 0 ∨ j % 4 = 1 ∨ j % 4 = 2 ∨ j % 4 = 3 := by omega
  rcases hm with hm | hm | hm | hm
  · rw [show j / 4 * 4 = j by omega] at e0 c0
    rw [c0, ← hu, e0]
  · rw [show j / 4 * 4 + 1 = j by omega] at e1
    rw [show off + j / 4 * 4 + 1 = off + j by omega] at c1
    rw [c1, ← hu, e1]
  · rw [show j / 4 * 4 + 2 = j by omega] at e2
    rw [show off + j / 4 * 4 + 2 = off + j by omega] at c2
    rw [c2, ← hu, e2]
  · rw [show j / 4 * 4 + 3 = j by omega] at e3
    rw [show off + j / 4 * 4 + 3 = off + j by omega] at c3
    rw [c3, ← hu, e3]

/-- the pixels of a slice that is handed in -/
theorem open_pixels {H : Type} {enc : TypeId × Value → H} {W : World} {fuel : Nat} {u : Value} {x : DataW H × List MemPlace} (hf : DataW.trod enc Try.prog W 0 (fun _ => true) true fuel 24 [u] = some x) : ∃ ao n c b off l, u = .slice ao n c ∧ Vx W ao n c b off l ∧ ∀ p, p ∈ l → byteX p := by
  rcases open_slice Try.underlying24 hf with ⟨hcs, -⟩ | ⟨a, len, cap, m, n', D, Pl, hcs, -, hl, hmx, hmm, -, hx⟩
  · simp at hcs
    subst hcs
    exact ⟨_, _, _, 0, 0, [], rfl, vx_nil _ _, fun p hp => by cases hp⟩
  · simp at hcs
    subst hcs
    have hmc : m = cap := by simpa using hmm
    subst hmc
    rw [cells28] at hx
    have each : ∀ i, i < m → ∃ r : X, W.cell? (a.add (i * 4)) = some (.int .u8 r.c0) ∧ W.cell? (a.add (i * 4 + 1)) = some (.int .u8 r.c1) ∧ W.cell? (a.add (i * 4 + 2)) = some (.int .u8 r.c2) ∧ W.cell? (a.add (i * 4 + 3)) = some (.int .u8 r.c3) ∧ byteX r := by
      intro i hi
      obtain ⟨cs', h1, h2⟩ := hx i hi
      obtain ⟨_, hlen, hcell⟩ := World.cells?_some h1
      match cs', hlen with
      | [v0, v1, v2, v3], _ =>
        obtain ⟨y0, y1, y2, y3, k, -, g0, g1, g2, g3⟩ := trod_array4 Try.underlying28 cells5 h2
        obtain ⟨x0, e0, -, f0⟩ := DataW.trod_int Try.underlying5 g0
        obtain ⟨x1, e1, -, f1⟩ := DataW.trod_int Try.underlying5 g1
        obtain ⟨x2, e2, -, f2⟩ := DataW.trod_int Try.underlying5 g2
        obtain ⟨x3, e3, -, f3⟩ := DataW.trod_int Try.underlying5 g3
        simp at e0 e1 e2 e3
        subst e0 e1 e2 e3
        have c0 := hcell 0 (by omega)
        have c1 := hcell 1 (by omega)
        have c2 := hcell 2 (by omega)
        have c3 := hcell 3 (by omega)
        rw [add_add] at c0 c1 c2 c3
        exact ⟨⟨x0, x1, x2, x3⟩, by simpa using c0, by simpa using c1, by simpa using c2, by simpa using c3, u8_wf f0, u8_wf f1, u8_wf f2, u8_wf f3⟩
    obtain ⟨q, hq⟩ := @choose_lt X ⟨⟨0, 0, 0, 0⟩⟩ m _ each
    by_cases hm0 : 0 < m
    · obtain ⟨b, off, sp⟩ := a
      have hsp : sp = none := by
        have := (hq 0 hm0).1
        rw [show 0 * 4 = 0 from rfl] at this
        cases sp with
        | none => rfl
        | some s =>
          simp only [Addr.add, if_pos, World.cell?] at this
          split at this
          · simp at this
          · cases this
      subst hsp
      refine ⟨_, _, _, b, off, (List.range len).map q, rfl, ⟨by rw [flat_len]; simp, hl, hmx, fun _ => rfl, lies_of fun i r hr => ?_⟩, fun p hp => ?_⟩
      case refine_2 =>
        obtain ⟨i, hi, rfl⟩ := List.mem_map.1 hp
        exact (hq i (by have := List.mem_range.1 hi; omega)).2.2.2.2
      have hi : i < len := by
        have := (List.getElem?_eq_some_iff.1 hr).1
        simpa using this
      have er : r = q i := by
        rw [List.getElem?_map, List.getElem?_range hi] at hr
        simpa using hr.symm
      subst er
      obtain ⟨c0, c1, c2, c3, -⟩ := hq i (by omega)
      rw [Addr.add_lit] at c0 c1 c2 c3
      exact ⟨c0, by rw [Nat.add_assoc]; exact c1, by rw [Nat.add_assoc]; exact c2, by rw [Nat.add_assoc]; exact c3⟩
    · obtain rfl : m = 0 := by omega
      obtain rfl : len = 0 := by omega
      exact ⟨_, _, _, 0, 0, [], rfl, vx_nil _ _, fun p hp => by cases hp⟩

/-- a rectangle's numbers -/
theorem open_four {H : Type} {enc : TypeId × Value → H} {W : World} {fuel : Nat} {c0 c1 c2 c3 : Value} {x : DataW H × List MemPlace} (hf : DataW.trod enc Try.prog W 0 (fun _ => true) true fuel 23 [c0, c1, c2, c3] = some x) :
    ∃ x0 x1 x2 x3 : Int, c0 = .int .i64 x0 ∧ c1 = .int .i64 x1 ∧ c2 = .int .i64 x2 ∧ c3 = .int .i64 x3 := by
  obtain ⟨xs, n, _, hx, hl, hlen, hg⟩ := DataW.trod_struct Try.underlying23 hf
  match xs, hlen with
  | [y0, y1, y2, y3], _ =>
    have g0 := hg 0 _ rfl
    have g1 := hg 1 _ rfl
    have g2 := hg 2 _ rfl
    have g3 := hg 3 _ rfl
    simp [cells3] at g0 g1 g2 g3
    obtain ⟨x0, e0, -, -⟩ := DataW.trod_int Try.underlying3 g0
    obtain ⟨x1, e1, -, -⟩ := DataW.trod_int Try.underlying3 g1
    obtain ⟨x2, e2, -, -⟩ := DataW.trod_int Try.underlying3 g2
    obtain ⟨x3, e3, -, -⟩ := DataW.trod_int Try.underlying3 g3
    simp at e0 e1 e2 e3
    exact ⟨x0, x1, x2, x3, e0, e1, e2, e3⟩

theorem open_rect {H : Type} {enc : TypeId × Value → H} {W : World} {base : Nat} {v : Value} {d : DataW H} {p : List MemPlace}
    (hv : Value.okWide Try.prog W .any base 23 v) (h : DataW.Trod enc Try.prog W 0 (fun _ => true) true 23 v d p) : ∃ B : R, v = .agg #[.int .i64 B.x0, .int .i64 B.y0, .int .i64 B.x1, .int .i64 B.y1] := by
  obtain ⟨cs, rfl, hsz⟩ := okWide_struct Try.underlying23 hv
  rw [cells23] at hsz
  obtain ⟨l⟩ := cs
  obtain ⟨c0, c1, c2, c3, rfl⟩ := list4 l hsz
  obtain ⟨fuel, hf⟩ := h
  obtain ⟨x0, x1, x2, x3, rfl, rfl, rfl, rfl⟩ := open_four (by simpa [Value.cells] using hf)
  exact ⟨⟨x0, x1, x2, x3⟩, rfl⟩

theorem open_buf {H : Type} {enc : TypeId × Value → H} {W : World} {base : Nat} {v : Value} {d : DataW H} {p : List MemPlace}
    (hv : Value.okWide Try.prog W .any base 26 v) (h : DataW.Trod enc Try.prog W 0 (fun _ => true) true 26 v d p) : ∃ (B : R) (ao : Option Addr) (n c g off : Nat) (l : List X), v = .agg #[.int .i64 B.x0, .int .i64 B.y0, .int .i64 B.x1, .int .i64 B.y1, .slice ao n c] ∧ Vx W ao n c g off l ∧ ∀ p, p ∈ l → byteX p := by
  obtain ⟨cs, rfl, hsz⟩ := okWide_struct Try.underlying26 hv
  rw [cells26] at hsz
  obtain ⟨l⟩ := cs
  obtain ⟨c0, c1, c2, c3, c4, rfl⟩ := list5 l hsz
  obtain ⟨fuel, hf⟩ := h
  obtain ⟨xs, n, _, hx, hl, hlen, hg⟩ := DataW.trod_struct Try.underlying26 hf
  match xs, hlen with
  | [y0, y1], _ =>
    have g0 := hg 0 _ rfl
    have g1 := hg 1 _ rfl
    simp [cells23, cells24, Value.cells] at g0 g1
    obtain ⟨x0, x1, x2, x3, rfl, rfl, rfl, rfl⟩ := open_four g0
    obtain ⟨ao, m, c, b, off, l, rfl, hV, hB⟩ := open_pixels g1
    exact ⟨⟨x0, x1, x2, x3⟩, ao, m, c, b, off, l, rfl, hV, hB⟩

theorem open_px {H : Type} {enc : TypeId × Value → H} {W : World} {base : Nat} {v : Value} {d : DataW H} {p : List MemPlace}
    (hv : Value.okWide Try.prog W .any base 28 v) (h : DataW.Trod enc Try.prog W 0 (fun _ => true) true 28 v d p) : ∃ x : X, v = .agg #[.int .u8 x.c0, .int .u8 x.c1, .int .u8 x.c2, .int .u8 x.c3] ∧ byteX x := by
  obtain ⟨cs, rfl, hsz, _⟩ : ∃ cs, v = .agg cs ∧ cs.size = Try.prog.cellsOf 28 ∧ Row.okWide Try.prog W .any base 28 cs := by
    simpa [Value.okWide, Try.underlying28] using hv
  rw [cells28] at hsz
  obtain ⟨l⟩ := cs
  obtain ⟨c0, c1, c2, c3, rfl⟩ := list4 l hsz
  obtain ⟨fuel, hf⟩ := h
  obtain ⟨y0, y1, y2, y3, m, hx, hy0, hy1, hy2, hy3⟩ := trod_array4 Try.underlying28 cells5 hf
  obtain ⟨x0, e0, -, f0⟩ := DataW.trod_int Try.underlying5 hy0
  obtain ⟨x1, e1, -, f1⟩ := DataW.trod_int Try.underlying5 hy1
  obtain ⟨x2, e2, -, f2⟩ := DataW.trod_int Try.underlying5 hy2
  obtain ⟨x3, e3, -, f3⟩ := DataW.trod_int Try.underlying5 hy3
  simp at e0 e1 e2 e3
  subst e0 e1 e2 e3
  exact ⟨⟨x0, x1, x2, x3⟩, rfl, u8_wf f0, u8_wf f1, u8_wf f2, u8_wf f3⟩
end Go.Proofs.Ytfgfgfmimejpdaa
/- Whether a pixel is right, as the document has it: the contract. -/
namespace Go.Proofs.Ytfgfgfmimejpdaa
open Num Go.RowKit
set_option linter.unusedVariables false
set_option linter.unusedSimpArgs false

def rgtB (p : X) : Bool := decide (p.c0 ≤ p.c3 ∧ p.c1 ≤ p.c3 ∧ p.c2 ≤ p.c3)
theorem rgt_of {p : X} (h : rgtB p = true) : rightX p := of_decide_eq_true (p := p.c0 ≤ p.c3 ∧ p.c1 ≤ p.c3 ∧ p.c2 ≤ p.c3) h
theorem of_rgt {p : X} (h : rightX p) : rgtB p = true := by unfold rgtB; exact decide_eq_true (show p.c0 ≤ p.c3 ∧ p.c1 ≤ p.c3 ∧ p.c2 ≤ p.c3 from h)
set_option maxHeartbeats 1000000 in
theorem pxRight_any (p : X) (w : World) : Calls Try.prog 14 #[.agg #[.int .u8 p.c0, .int .u8 p.c1, .int .u8 p.c2, .int .u8 p.c3]] w fun e w' => e = .returned (.bool (rgtB p)) ∧ Below w.heap.size w w' := by
  have HB : Hid (Below w.heap.size w (w.alloc (.cells #[.int .u8 p.c0, .int .u8 p.c1, .int .u8 p.c2, .int .u8 p.c3] 28))) := (Below.refl _ _).alloc (Nat.le_refl _) _
  by_cases h1 : p.c3 < p.c0
  · have e : rgtB p = false := decide_eq_false (by omega)
    go_enter Try.func14, Try.ntmps14
    go_wp2
    refine wp_loop_rounds 1 ?_
    rw [rounds_succ]
    go_wp2
    go_quiet (fail)
    go_wp2
    go_ret
    exact ⟨ret_bool e.symm, by repeat (first | with_reducible exact HB.out | with_reducible refine below_drewN ?_ _)⟩
  by_cases h2 : p.c3 < p.c1
  · have e : rgtB p = false := decide_eq_false (by omega)
    go_enter Try.func14, Try.ntmps14
    go_wp2
    refine wp_loop_rounds 2 ?_
    rw [rounds_succ]
    go_wp2
    go_quiet (fail)
    go_wp2
    rw [rounds_succ]
    go_wp2
    go_quiet (fail)
    go_wp2
    go_ret
    exact ⟨ret_bool e.symm, by repeat (first | with_reducible exact HB.out | with_reducible refine below_drewN ?_ _)⟩
  by_cases h3 : p.c3 < p.c2
  · have e : rgtB p = false := decide_eq_false (by omega)
    go_enter Try.func14, Try.ntmps14
    go_wp2
    refine wp_loop_rounds 3 ?_
    rw [rounds_succ]
    go_wp2
    go_quiet (fail)
    go_wp2
    rw [rounds_succ]
    go_wp2
    go_quiet (fail)
    go_wp2
    rw [rounds_succ]
    go_wp2
    go_quiet (fail)
    go_wp2
    go_ret
    exact ⟨ret_bool e.symm, by repeat (first | with_reducible exact HB.out | with_reducible refine below_drewN ?_ _)⟩
  have e : rgtB p = true := decide_eq_true (by omega)
  go_enter Try.func14, Try.ntmps14
  go_wp2
  refine wp_loop_rounds 4 ?_
  rw [rounds_succ]
  go_wp2
  go_quiet (fail)
  go_wp2
  rw [rounds_succ]
  go_wp2
  go_quiet (fail)
  go_wp2
  rw [rounds_succ]
  go_wp2
  go_quiet (fail)
  go_wp2
  rw [rounds_succ]
  go_wp2
  go_ret
  exact ⟨ret_bool e.symm, by repeat (first | with_reducible exact HB.out | with_reducible refine below_drewN ?_ _)⟩
end Go.Proofs.Ytfgfgfmimejpdaa
/- The law's own small functions: contracts. -/
namespace Go.Proofs.Ytfgfgfmimejpdaa
open Num Go.RowKit
set_option linter.unusedVariables false
set_option linter.unusedSimpArgs false

def nearM (n : Int) : Bool := decide (-16777216 ≤ n ∧ n ≤ 16777216)
theorem nearM_any (n : Int) (w : World) : Calls Try.prog 13 #[.int .i64 n] w fun e w' => e = .returned (.bool (nearM n)) ∧ w' = w := by
  go_enter Try.func13, Try.ntmps13
  go_wp2
  all_goals
    go_ret
    refine ⟨ret_bool ?_, rfl⟩
    unfold nearM
    rw [Bool.eq_iff_iff]
    simp
    omega
def halfB (r : R) : Bool := decide (((-33554432 ≤ r.x0 ∧ -33554432 ≤ r.y0) ∧ (r.x1 ≤ 33554432 ∧ r.y1 ≤ 33554432)) ∧ ((r.x0 ≤ 33554432 ∧ r.y0 ≤ 33554432) ∧ (-33554432 ≤ r.x1 ∧ -33554432 ≤ r.y1)))
set_option maxRecDepth 100000 in
theorem halfB_any (a b c d : Int) (w : World) :
    Calls Try.prog 16 #[.agg #[.int .i64 a, .int .i64 b, .int .i64 c, .int .i64 d]] w fun e w' => e = .returned (.bool (halfB ⟨a, b, c, d⟩)) ∧ Below w.heap.size w w' := by
  go_enter Try.func16, Try.ntmps16
  go_wp2
  all_goals
    go_ret
    refine ⟨ret_bool ?_, (Below.refl _ _).alloc (Nat.le_refl _) _⟩
    unfold halfB
    rw [Bool.eq_iff_iff]
    simp
    try omega
theorem box_law (D : R) (w : World) :
    Calls Try.prog 11 #[.agg #[.int .i64 D.x0, .int .i64 D.y0, .int .i64 D.x1, .int .i64 D.y1]] w fun e w' => e = .returned (.bool (fineF D 0 0 400)) ∧ Below w.heap.size w w' := by
  have hB : Below w.heap.size w (w.alloc (.cells #[.int .i64 D.x0, .int .i64 D.y0, .int .i64 D.x1, .int .i64 D.y1] 23)) := (Below.refl _ _).alloc (Nat.le_refl _) _
  go_enter Try.func11, Try.ntmps11
  go_wp2_with (go_at_call 26; with_reducible refine Calls.mono (refFine_any D 0 0 400 _) ?_; rintro e w1 ⟨rfl, hb1⟩; have HB1 := hid (Rc.via hB hb1); clear hb1)
  go_ret
  exact ⟨rfl, HB1.out⟩

/-- is a buffer right, little, and of right pixels? -/
def rightT (B : R) (n : Nat) (l : List X) : Bool := decide (n ≤ 300) && (bufB B n && l.all rgtB)
theorem rightT_of {B : R} {n : Nat} {l : List X} (h : rightT B n l = true) : n ≤ 300 ∧ bufB B n = true ∧ ∀ p, p ∈ l → rightX p := by
  unfold rightT at h
  simp only [Bool.and_eq_true, decide_eq_true_eq, List.all_eq_true] at h
  exact ⟨h.1, h.2.1, fun p hp => rgt_of (h.2.2 p hp)⟩
theorem all_no {l : List X} {k : Nat} {r : X} (hr : l[k]? = some r) (h : rgtB r = false) : l.all rgtB = false := by
  rw [Bool.eq_false_iff]
  intro hh
  have := (List.all_eq_true.1 hh) r (List.mem_of_getElem? hr)
  rw [h] at this
  cases this
theorem all_yes {l : List X} {n : Nat} (hn : l.length = n) (h : ∀ j, j < n → ∀ r, l[j]? = some r → rgtB r = true) : l.all rgtB = true := by
  rw [List.all_eq_true]
  intro p hp
  obtain ⟨j, hj⟩ := List.getElem?_of_mem hp
  exact h j (by have := (List.getElem?_eq_some_iff.1 hj).1; omega) p hj

set_option maxRecDepth 100000 in
set_option maxHeartbeats 2000000 in
theorem right10_any (B : R) (ao : Option Addr) (n m g off : Nat) (l : List X) (w : World) (h : Vx w ao n m g off l) :
    Calls Try.prog 10 #[.agg #[.int .i64 B.x0, .int .i64 B.y0, .int .i64 B.x1, .int .i64 B.y1, .slice ao n m]] w fun e w' => e = .returned (.bool (rightT B n l)) ∧ Below w.heap.size w w' := by
  have hn := vx_small h
  have hl := vx_len h
  have HV := hid h
  have HS : Hid (Has5 (w.alloc (.cells #[.int .i64 B.x0, .int .i64 B.y0, .int .i64 B.x1, .int .i64 B.y1, .slice ao n m] 26)) w.heap.size B ao n m ∧ Below w.heap.size w (w.alloc (.cells #[.int .i64 B.x0, .int .i64 B.y0, .int .i64 B.x1, .int .i64 B.y1, .slice ao n m] 26))) := ⟨Has5.new rfl _ _ _ _ _ _ _ _, (Below.refl _ _).alloc (Nat.le_refl _) _⟩
  clear h
  by_cases h3 : n ≤ 300
  · have h3i : (n : Int) ≤ 300 := by omega
    rcases hb : bufB ⟨B.x0, B.y0, B.x1, B.y1⟩ n with _ | _
    · have E : rightT B n l = false := by unfold rightT; rw [show bufB B n = false from hb]; simp
      rw [E]
      have HB := hid hb
      clear hb E
      go_enter Try.func10, Try.ntmps10
      go_wp2_with (go_at_call 34; with_reducible refine Calls.mono (refRightB_any B.x0 B.y0 B.x1 B.y1 ao n m _ hn) ?_; rintro e w1 ⟨rfl, hb1⟩; rw [HB.out]; have HS1 := hid (Rc.via HS.out.2 hb1); clear hb1)
      go_ret
      exact ⟨rfl, HS1.out⟩
    · have E : rightT B n l = l.all rgtB := by unfold rightT; rw [show bufB B n = true from hb, decide_eq_true h3]; simp
      have HB := hid hb
      have HE := hid E
      clear hb E
      obtain ⟨p0, p1, p2, p3, p4, pf⟩ := HS.out.1
      go_enter Try.func10, Try.ntmps10
      go_wp2_with (go_at_call 34; with_reducible refine Calls.mono (refRightB_any B.x0 B.y0 B.x1 B.y1 ao n m _ hn) ?_; rintro e w1 ⟨rfl, hb1⟩; rw [HB.out]; have HS1 := hid (And.intro (HS.out.1.below hb1) (Rc.via HS.out.2 hb1)); clear hb1 p0 p1 p2 p3 p4 pf)
      go_loopg [3] n (fun g i wr => ∃ k : Nat, k ≤ n ∧ g = n - k ∧ i = .int .i64 k ∧ (∀ j, j < k → ∀ r, l[j]? = some r → rgtB r = true) ∧ Has5 wr w.heap.size B ao n m ∧ Below w.heap.size w wr)
      case atStart => exact ⟨0, Nat.zero_le _, rfl, rfl, fun j hj => by omega, HS1.out.1, HS1.out.2⟩
      case round =>
        clear HS1
        obtain ⟨k, hk, rfl, rfl, hall, hA, hB⟩ := hrel
        have HA := hid (And.intro hall (And.intro hA hB))
        obtain ⟨-, -, -, -, a4, -⟩ := hA
        clear hall
        by_cases hlt : k < n
        · have hlz : (k : Int) < (n : Int) := by omega
          obtain ⟨r, hr⟩ : ∃ s, l[k]? = some s := ⟨_, List.getElem?_eq_getElem (by omega)⟩
          have HR := hid hr
          obtain ⟨rfl, h0, h1, h2, h3'⟩ := vx_at (HV.out.below hB) hr
          clear hr hB
          rcases hg : rgtB r with _ | _
          · have HG := hid hg
            clear hg
            go_wp2_with (go_at_call 14; with_reducible refine Calls.mono (pxRight_any r _) ?_; rintro e w2 ⟨rfl, hb2⟩; rw [HG.out]; have HB2 := hid (Rc.via HA.out.2.2 hb2); clear hb2)
            go_ret
            exact ⟨ret_bool (by rw [HE.out, all_no HR.out HG.out]), HB2.out⟩
          · have HG := hid hg
            clear hg
            go_wp2_with (go_at_call 14; with_reducible refine Calls.mono (pxRight_any r _) ?_; rintro e w2 ⟨rfl, hb2⟩; rw [HG.out]; have HB2 := hid (And.intro (HA.out.2.1.below hb2) (Rc.via HA.out.2.2 hb2)); clear hb2)
            go_roundg (n - (k + 1))
            case measure => omega
            case rel =>
              refine ⟨k + 1, hlt, rfl, by simp, fun j hj r' hr' => ?_, HB2.out.1, HB2.out.2⟩
              by_cases e : j = k
              · subst e
                have := HR.out
                rw [this] at hr'
                cases hr'
                exact HG.out
              · exact HA.out.1 j (by omega) r' hr'
        · obtain rfl : n = k := by omega
          clear hB
          go_wp2
          go_ret
          exact ⟨ret_bool (by rw [HE.out, all_yes hl HA.out.1]), HA.out.2.2⟩
  · have h3i : ¬ (n : Int) ≤ 300 := by omega
    have E : rightT B n l = false := by unfold rightT; rw [decide_eq_false h3]; rfl
    rw [E]
    go_enter Try.func10, Try.ntmps10
    go_wp2
    go_ret
    exact ⟨rfl, HS.out.2⟩
/-- what stands behind the law's first test -/
structure Gd (B : R) (n : Nat) (l : List X) : Prop where
  n3 : n ≤ 300
  buf : bufB B n = true
  im : l = img B (unimg B l)
  byt : ∀ x y, byteX (unimg B l x y)
  rgt : ∀ x y, rightX (unimg B l x y)
  ok : Ok B
theorem gd_of {w : World} {ao : Option Addr} {n m g off : Nat} {l : List X} {B : R} (h : Vx w ao n m g off l) (hp : ∀ p, p ∈ l → byteX p) (hr : rightT B n l = true) : Gd B n l := by
  obtain ⟨h3, hb, hr⟩ := rightT_of hr
  have hl := vx_len h
  have hu : ∀ (P : X → Prop), P noX → (∀ p, p ∈ l → P p) → ∀ x y, P (unimg B l x y) := by
    intro P h0 h1 x y
    unfold unimg
    rw [List.getD_eq_getElem?_getD]
    rcases e : l[posN B x y]? with _ | p
    · exact h0
    · exact h1 p (List.mem_of_getElem? e)
  have hok : Ok B ∧ l.length = wid B * hei B := by
    rcases buf_cases hb with ⟨e1, e2, e3⟩ | ⟨e1, e2, e3⟩
    · rw [e2, hl, e3]; exact ⟨ok_nil, rfl⟩
    · refine ⟨ok_of_right e2, ?_⟩
      have h1 : area B ≤ 5000 := by omega
      have := (size_of (ok_of_right e2) e1 h1).1
      omega
  exact ⟨h3, hb, img_of hok.2, hu _ byte_no hp, hu _ right_no hr, hok.1⟩
theorem fine_box {D : R} {rx ry most : Int} (h : fineF D rx ry most = true) : (0 ≤ rx ∧ 0 ≤ ry ∧ rx ≤ 255 ∧ ry ≤ 255) ∧ Half D ∧ area (grow D rx ry rx ry) ≤ most := by
  unfold fineF at h
  simp only [Bool.and_eq_true, decide_eq_true_eq] at h
  exact ⟨h.1.1, h.1.2, h.2⟩
theorem fine_area {D : R} {most : Int} (h : fineF D 0 0 most = true) : Half D ∧ area D ≤ most := by
  obtain ⟨-, h1, h2⟩ := fine_box h
  have := grow_area (Z := D) (rx := 0) (ry := 0) h1 (by omega) (by omega)
  exact ⟨h1, Int.le_trans this h2⟩
end Go.Proofs.Ytfgfgfmimejpdaa
/- Whether two buffers are the same: the contract. -/
namespace Go.Proofs.Ytfgfgfmimejpdaa
open Num Go.RowKit
set_option linter.unusedVariables false
set_option linter.unusedSimpArgs false
attribute [local go_sem ↓] eqR

/-- two pixels that are the same are equal -/
theorem eqPx (r g b a : Int) (w : World) : (Op.equalIn 10000 28 (.agg #[.int .u8 r, .int .u8 g, .int .u8 b, .int .u8 a]) (.agg #[.int .u8 r, .int .u8 g, .int .u8 b, .int .u8 a])).run Try.prog w = .ok true w := by
  have u3 := Try.underlying5
  have a3 := Try.isAgg5
  have z3 := Try.sizeOf5
  rw [show (10000 : Nat) = 9999 + 1 from rfl, Op.equalIn]
  simp only [Sem.run_bind, run_underlying Try.underlying28, Result.andThen_ok]
  simp only [Std.Legacy.Range.forIn_eq_forIn_range', Std.Legacy.Range.size, Nat.sub_zero, Nat.add_sub_cancel, Nat.div_one, List.range'_succ, List.range'_zero, List.forIn_cons, List.forIn_nil]
  go_simp
attribute [local go_sem ↓] eqPx
attribute [local go_sem] eq4_same

set_option maxRecDepth 100000 in
set_option maxHeartbeats 1000000 in
theorem same_yes (B : R) (ao : Option Addr) (n c b off : Nat) (ao' : Option Addr) (c' b' off' : Nat) (l : List X) (w : World) (h : Vx w ao n c b off l) (h' : Vx w ao' n c' b' off' l) :
    Calls Try.prog 17 #[.agg #[.int .i64 B.x0, .int .i64 B.y0, .int .i64 B.x1, .int .i64 B.y1, .slice ao n c], .agg #[.int .i64 B.x0, .int .i64 B.y0, .int .i64 B.x1, .int .i64 B.y1, .slice ao' n c']] w fun e w' => e = .returned (.bool true) ∧ Below w.heap.size w w' := by
  have hn := vx_small h
  have HV := hid (And.intro h h')
  have hl := hid (vx_len h)
  clear h h'
  have hA : Has5 ((w.alloc (.cells #[.int .i64 B.x0, .int .i64 B.y0, .int .i64 B.x1, .int .i64 B.y1, .slice ao n c] 26)).alloc (.cells #[.int .i64 B.x0, .int .i64 B.y0, .int .i64 B.x1, .int .i64 B.y1, .slice ao' n c'] 26)) w.heap.size B ao n c := (Has5.new rfl _ _ _ _ _ _ _ _).alloc _
  have hC : Has5 ((w.alloc (.cells #[.int .i64 B.x0, .int .i64 B.y0, .int .i64 B.x1, .int .i64 B.y1, .slice ao n c] 26)).alloc (.cells #[.int .i64 B.x0, .int .i64 B.y0, .int .i64 B.x1, .int .i64 B.y1, .slice ao' n c'] 26)) (w.heap.size + 1) B ao' n c' := Has5.new (by simp) _ _ _ _ _ _ _ _
  have hB : Below w.heap.size w ((w.alloc (.cells #[.int .i64 B.x0, .int .i64 B.y0, .int .i64 B.x1, .int .i64 B.y1, .slice ao n c] 26)).alloc (.cells #[.int .i64 B.x0, .int .i64 B.y0, .int .i64 B.x1, .int .i64 B.y1, .slice ao' n c'] 26)) := ((Below.refl _ _).alloc (Nat.le_refl _) _).alloc (by simp) _
  have HS := hid (And.intro hA (And.intro hC hB))
  clear hA hC hB
  go_enter Try.func17, Try.ntmps17
  go_wp2
  go_loopg [5] n (fun g i wr => ∃ k : Nat, k ≤ n ∧ g = n - k ∧ i = .int .i64 k ∧ Has5 wr w.heap.size B ao n c ∧ Has5 wr (w.heap.size + 1) B ao' n c' ∧ Below w.heap.size w wr)
  case atStart => exact ⟨0, Nat.zero_le _, rfl, rfl, HS.out.1, HS.out.2.1, HS.out.2.2⟩
  case round =>
    clear HS
    obtain ⟨k, hk, rfl, rfl, hA, hC, hB⟩ := hrel
    have HS := hid (And.intro hA (And.intro hC hB))
    obtain ⟨-, -, -, -, a4, -⟩ := hA
    obtain ⟨-, -, -, -, e4, -⟩ := hC
    by_cases hlt : k < n
    · have hlz : (k : Int) < (n : Int) := by omega
      obtain ⟨r, hr⟩ : ∃ s, l[k]? = some s := ⟨_, List.getElem?_eq_getElem (by rw [hl.out]; exact hlt)⟩
      obtain ⟨rfl, h0, h1, h2, h3⟩ := vx_at (HV.out.1.below hB) hr
      obtain ⟨rfl, g0, g1, g2, g3⟩ := vx_at (HV.out.2.below hB) hr
      clear hr hB
      go_wp2
      go_quiet (fail)
      go_wp2
      go_roundg (n - (k + 1))
      case measure => omega
      case rel => exact ⟨k + 1, hlt, rfl, by simp, HS.out.1.below (below_drewN (Below.refl _ _) _), HS.out.2.1.below (below_drewN (Below.refl _ _) _), below_drewN HS.out.2.2 _⟩
    · obtain rfl : n = k := by omega
      go_wp2
      go_ret
      exact ⟨rfl, hB⟩
end Go.Proofs.Ytfgfgfmimejpdaa
/- The law's own answers that the document fixes: the contract. -/
namespace Go.Proofs.Ytfgfgfmimejpdaa
open Num Go.RowKit
set_option linter.unusedVariables false
set_option linter.unusedSimpArgs false
attribute [local go_sem ↓] eqPx
def pA : X := ⟨1, 1, 1, 1⟩
def qA : X := ⟨2, 2, 2, 2⟩
def bA : R := ⟨0, 0, 2, 1⟩
theorem aw_tile (ao : Option Addr) (m g off : Nat) (w : World) (hV : Vx w ao 2 m g off [pA, qA]) :
    Calls Try.prog 18 #[.agg #[.int .i64 0, .int .i64 0, .int .i64 2, .int .i64 1, .slice ao 2 m], .agg #[.int .i64 (-1), .int .i64 0, .int .i64 3, .int .i64 1], .agg #[.int .i64 0, .int .i64 0, .int .i64 2, .int .i64 1]] w fun e w' => RetB w.heap.size w' e ⟨-1, 0, 3, 1⟩ [⟨2, 2, 2, 2⟩, ⟨1, 1, 1, 1⟩, ⟨2, 2, 2, 2⟩, ⟨1, 1, 1, 1⟩] ∧ Below w.heap.size w w' := by
  have h := tile_any bA ao 2 m g off (unimg bA [pA, qA]) ⟨-1, 0, 3, 1⟩ bA w (by omega) (by decide) (by rw [show img bA (unimg bA [pA, qA]) = [pA, qA] by decide]; exact hV) (by decide) (by decide) (by decide) (by decide)
  rw [show orN ⟨-1, 0, 3, 1⟩ = ⟨-1, 0, 3, 1⟩ by decide, show img ⟨-1, 0, 3, 1⟩ (tileG bA (atX bA (unimg bA [pA, qA]))) = [⟨2, 2, 2, 2⟩, ⟨1, 1, 1, 1⟩, ⟨2, 2, 2, 2⟩, ⟨1, 1, 1, 1⟩] by decide] at h
  exact h
theorem aw_off (ao : Option Addr) (m g off : Nat) (w : World) (hV : Vx w ao 2 m g off [pA, qA]) :
    Calls Try.prog 20 #[.agg #[.int .i64 0, .int .i64 0, .int .i64 2, .int .i64 1, .slice ao 2 m], .agg #[.int .i64 0, .int .i64 0, .int .i64 2, .int .i64 1], .int .i64 1, .int .i64 0] w fun e w' => RetB w.heap.size w' e ⟨0, 0, 2, 1⟩ [⟨0, 0, 0, 0⟩, ⟨1, 1, 1, 1⟩] ∧ Below w.heap.size w w' := by
  have h := offset_any bA ao 2 m g off (unimg bA [pA, qA]) bA 1 0 w (by omega) (by decide) (by rw [show img bA (unimg bA [pA, qA]) = [pA, qA] by decide]; exact hV) (by unfold Ok bA; decide) (by decide) (by decide) (by decide)
  rw [show orN bA = ⟨0, 0, 2, 1⟩ by decide, show img ⟨0, 0, 2, 1⟩ (fun x y => atX bA (unimg bA [pA, qA]) (x - 1) (y - 0)) = [⟨0, 0, 0, 0⟩, ⟨1, 1, 1, 1⟩] by decide] at h
  exact h
theorem len2 {p q : X} {n : Nat} (h : [p, q].length = n) : n = 2 := by simpa using h.symm
theorem len4 {p q r s : X} {n : Nat} (h : [p, q, r, s].length = n) : n = 4 := by simpa using h.symm
structure Aw (w W : World) (k : Nat) (wr : World) : Prop where
  p : Rc.Has4 wr k (.int .u8 1) (.int .u8 1) (.int .u8 1) (.int .u8 1)
  q : Rc.Has4 wr (k + 1) (.int .u8 2) (.int .u8 2) (.int .u8 2) (.int .u8 2)
  b : Has5 wr (k + 1 + 1 + 1) ⟨0, 0, 2, 1⟩ (some ⟨k + 1 + 1, 0, none⟩) 2 2
  v : Vx wr (some ⟨k + 1 + 1, 0, none⟩) 2 2 (k + 1 + 1) 0 [pA, qA]
  low : Below w.heap.size w wr
theorem Aw.below {w W : World} {k : Nat} {wr wr' : World} (h : Aw w W k wr) (hb : Below wr.heap.size wr wr') : Aw w W k wr' := ⟨h.p.below hb, h.q.below hb, h.b.below hb, h.v.below hb, Rc.via h.low hb⟩

set_option maxRecDepth 100000 in
set_option maxHeartbeats 4000000 in
theorem awake_any (w : World) : Calls Try.prog 9 #[] w fun e w' => e = .returned (.bool true) ∧ Below w.heap.size w w' := by
  have HA : Hid (Aw w w w.heap.size (((((w.alloc (.cells #[.int .u8 1, .int .u8 1, .int .u8 1, .int .u8 1] 28)).alloc (.cells #[.int .u8 2, .int .u8 2, .int .u8 2, .int .u8 2] 28)).alloc (.cells #[.int .u8 1, .int .u8 1, .int .u8 1, .int .u8 1, .int .u8 2, .int .u8 2, .int .u8 2, .int .u8 2] 28)).alloc (.cells #[.int .i64 0, .int .i64 0, .int .i64 2, .int .i64 1, .slice (some ⟨w.heap.size + 1 + 1, 0, none⟩) 2 2] 26)))) := by
    have hsz : ((w.alloc (.cells #[.int .u8 1, .int .u8 1, .int .u8 1, .int .u8 1] 28)).alloc (.cells #[.int .u8 2, .int .u8 2, .int .u8 2, .int .u8 2] 28)).heap.size = w.heap.size + 1 + 1 := by simp
    have hv := ox_news (w := (w.alloc (.cells #[.int .u8 1, .int .u8 1, .int .u8 1, .int .u8 1] 28)).alloc (.cells #[.int .u8 2, .int .u8 2, .int .u8 2, .int .u8 2] 28)) (lo := w.heap.size) (by simp; omega) [pA, qA] (by simp) 28
    rw [hsz] at hv
    exact ⟨(((Rc.Has4.new rfl _ _ _ _ _).alloc _).alloc _).alloc _, ((Rc.Has4.new (by simp) _ _ _ _ _).alloc _).alloc _, Has5.new (by simp) _ _ _ _ _ _ _ _, hv.v.below ((Below.refl _ _).alloc (Nat.le_refl _) _), ((((Below.refl _ _).alloc (Nat.le_refl _) _).alloc (by simp) _).alloc (by simp; omega) _).alloc (by simp; omega) _⟩
  go_enter Try.func9, Try.ntmps9
  go_wp2_with (first
    | (go_at_call 18; with_reducible refine Calls.mono (aw_tile _ 2 _ _ _ HA.out.v) ?_; rintro e w1 ⟨hr, hb1⟩; obtain ⟨ao, n1, m1, g1, off1, rfl, hO1⟩ := retB hr; have hn1 := len4 (vx_len hO1.v); subst hn1; have HA1 := hid ((HA.out.below hb1).below ((Below.refl _ _).alloc (Nat.le_refl _) (.cells #[.int .i64 (-1), .int .i64 0, .int .i64 3, .int .i64 1, .slice ao 4 m1] 26))); have H51 := hid (Has5.new (W := w1) (k := w1.heap.size) rfl (-1) 0 3 1 ao 4 m1 26); have HV1 := hid (hO1.v.below ((Below.refl _ _).alloc (Nat.le_refl _) (.cells #[.int .i64 (-1), .int .i64 0, .int .i64 3, .int .i64 1, .slice ao 4 m1] 26))); clear hr hO1 hb1; obtain ⟨b0, b1, b2, b3, b4, bf⟩ := HA1.out.b)
    | (go_at_call 20; with_reducible refine Calls.mono (aw_off _ 2 _ _ _ HA1.out.v) ?_; rintro e w2 ⟨hr, hb2⟩; obtain ⟨co, n2, m2, g2, off2, rfl, hO2⟩ := retB hr; have hn2 := len2 (vx_len hO2.v); subst hn2; have HA2 := hid ((HA1.out.below hb2).below ((Below.refl _ _).alloc (Nat.le_refl _) (.cells #[.int .i64 0, .int .i64 0, .int .i64 2, .int .i64 1, .slice co 2 m2] 26))); have H52 := hid ((H51.out.below hb2).alloc (.cells #[.int .i64 0, .int .i64 0, .int .i64 2, .int .i64 1, .slice co 2 m2] 26)); have HV2 := hid ((HV1.out.below hb2).below ((Below.refl _ _).alloc (Nat.le_refl _) (.cells #[.int .i64 0, .int .i64 0, .int .i64 2, .int .i64 1, .slice co 2 m2] 26))); have H62 := hid (Has5.new (W := w2) (k := w2.heap.size) rfl 0 0 2 1 co 2 m2 26); have HW2 := hid (hO2.v.below ((Below.refl _ _).alloc (Nat.le_refl _) (.cells #[.int .i64 0, .int .i64 0, .int .i64 2, .int .i64 1, .slice co 2 m2] 26))); clear hr hO2 hb2 b0 b1 b2 b3 b4 bf))
  generalize w2.alloc (.cells #[.int .i64 0, .int .i64 0, .int .i64 2, .int .i64 1, .slice co 2 m2] 26) = w3 at HA2 H52 HV2 H62 HW2 ⊢
  obtain ⟨-, -, -, -, b4, -⟩ := H52.out
  obtain ⟨-, -, -, -, f4, -⟩ := H62.out
  obtain ⟨t0, t1, t2, t3, -⟩ := HA2.out.p
  obtain ⟨s0, s1, s2, s3, -⟩ := HA2.out.q
  obtain ⟨rfl, p00, p01, p02, p03⟩ := vx_at0 HV2.out
  obtain ⟨-, p10, p11, p12, p13⟩ := vx_at HV2.out (i := 1) rfl
  obtain ⟨-, p30, p31, p32, p33⟩ := vx_at HV2.out (i := 3) rfl
  obtain ⟨rfl, r00, r01, r02, r03⟩ := vx_at0 HW2.out
  obtain ⟨-, r10, r11, r12, r13⟩ := vx_at HW2.out (i := 1) rfl
  go_quiet (fail)
  go_wp2
  go_ret
  exact ⟨rfl, below_drewN HA2.out.low _⟩
end Go.Proofs.Ytfgfgfmimejpdaa
