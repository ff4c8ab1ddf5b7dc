/- How a buffer, a rectangle and a pixel that are handed in are read. -/
import Derived.ProofKit
import Derived.OpenShut
import Derived.RowKit3
import Derived.Carry
import Derived.Deep.Slices
import Derived.Laws.IdiomArrays
import Derived.Test.YtfgfgfmimejpdaaFlat
import Derived.Test.YtfgfgfmimejpdaaBlurNum
namespace Go.Proofs.Ytfgfgfmimejpdaa
open Num Go.ChangeShapes Go.WideShapes Go.ChangeAt Go.RowKit Go.Deep

theorem cells3 : Try.prog.cellsOf 3 = 1 := by kernel_rfl
theorem cells5 : Try.prog.cellsOf 5 = 1 := by kernel_rfl
theorem cells23 : Try.prog.cellsOf 23 = 4 := by kernel_rfl
theorem cells24 : Try.prog.cellsOf 24 = 1 := by kernel_rfl
theorem cells26 : Try.prog.cellsOf 26 = 5 := by kernel_rfl
theorem cells28 : Try.prog.cellsOf 28 = 4 := by kernel_rfl
theorem laidOut : laidOutB Try.prog = true := by kernel_rfl

theorem u8_wf {n : Int} (h : (Lit.int .u8 n).wf = true) : 0 ≤ n ∧ n ≤ 255 := by
  simp [Lit.wf] at h
  have h1 : IntKind.u8.min = 0 := by decide
  have h2 : IntKind.u8.max = 255 := by decide
  omega
theorem list4 {α : Type} (l : List α) (h : (⟨l⟩ : Array α).size = 4) : ∃ a b c d, l = [a, b, c, d] := by
  match l, h with
  | [a, b, c, d], _ => exact ⟨a, b, c, d, rfl⟩
theorem list5 {α : Type} (l : List α) (h : (⟨l⟩ : Array α).size = 5) : ∃ a b c d e, l = [a, b, c, d, e] := by
  match l, h with
  | [a, b, c, d, e], _ => exact ⟨a, b, c, d, e, rfl⟩

theorem lies_of {w : World} {b off : Nat} : ∀ {l : List X}, (∀ i r, l[i]? = some r → w.cell? ⟨b, off + i * 4, none⟩ = some (.int .u8 r.c0) ∧ w.cell? ⟨b, off + i * 4 + 1, none⟩ = some (.int .u8 r.c1) ∧ w.cell? ⟨b, off + i * 4 + 2, none⟩ = some (.int .u8 r.c2) ∧ w.cell? ⟨b, off + i * 4 + 3, none⟩ = some (.int .u8 r.c3)) → Lies w b off (flat l) := by
  intro l h j u hu
  have hj : j < (flat l).length := (List.getElem?_eq_some_iff.1 hu).1
  rw [flat_len] at hj
  obtain ⟨r, hr⟩ : ∃ r, l[j / 4]? = some r := ⟨_, List.getElem?_eq_getElem (by omega)⟩
  obtain ⟨c0, c1, c2, c3⟩ := h _ r hr
  obtain ⟨e0, e1, e2, e3⟩ := flat_at hr
  have hm : j % 4 = 0 ∨ j % 4 = 1 ∨ j % 4 = 2 ∨ j % 4 = 3 := by omega
  rcases hm with hm | hm | hm | hm
  · rw [show j / 4 * 4 = j by omega] at e0 c0
    rw [c0, ← hu, e0]
  · rw [show j / 4 * 4 + 1 = j by omega] at e1
    rw [show off + j / 4 * 4 + 1 = off + j by omega] at c1
    rw [c1, ← hu, e1]
  · rw [show j / 4 * 4 + 2 = j by omega] at e2
    rw [show off + j / 4 * 4 + 2 = off + j by omega] at c2
    rw [c2, ← hu, e2]
  · rw [show j / 4 * 4 + 3 = j by omega] at e3
    rw [show off + j / 4 * 4 + 3 = off + j by omega] at c3
    rw [c3, ← hu, e3]

/-- the pixels of a slice that is handed in -/
theorem open_pixels {H : Type} {enc : TypeId × Value → H} {W : World} {fuel : Nat} {u : Value} {x : DataW H × List MemPlace} (hf : DataW.trod enc Try.prog W 0 (fun _ => true) true fuel 24 [u] = some x) : ∃ ao n c b off l, u = .slice ao n c ∧ Vx W ao n c b off l ∧ ∀ p, p ∈ l → byteX p := by
  rcases open_slice Try.underlying24 hf with ⟨hcs, -⟩ | ⟨a, len, cap, m, n', D, Pl, hcs, -, hl, hmx, hmm, -, hx⟩
  · simp at hcs
    subst hcs
    exact ⟨_, _, _, 0, 0, [], rfl, vx_nil _ _, fun p hp => by cases hp⟩
  · simp at hcs
    subst hcs
    have hmc : m = cap := by simpa using hmm
    subst hmc
    rw [cells28] at hx
    have each : ∀ i, i < m → ∃ r : X, W.cell? (a.add (i * 4)) = some (.int .u8 r.c0) ∧ W.cell? (a.add (i * 4 + 1)) = some (.int .u8 r.c1) ∧ W.cell? (a.add (i * 4 + 2)) = some (.int .u8 r.c2) ∧ W.cell? (a.add (i * 4 + 3)) = some (.int .u8 r.c3) ∧ byteX r := by
      intro i hi
      obtain ⟨cs', h1, h2⟩ := hx i hi
      obtain ⟨_, hlen, hcell⟩ := World.cells?_some h1
      match cs', hlen with
      | [v0, v1, v2, v3], _ =>
        obtain ⟨y0, y1, y2, y3, k, -, g0, g1, g2, g3⟩ := trod_array4 Try.underlying28 cells5 h2
        obtain ⟨x0, e0, -, f0⟩ := DataW.trod_int Try.underlying5 g0
        obtain ⟨x1, e1, -, f1⟩ := DataW.trod_int Try.underlying5 g1
        obtain ⟨x2, e2, -, f2⟩ := DataW.trod_int Try.underlying5 g2
        obtain ⟨x3, e3, -, f3⟩ := DataW.trod_int Try.underlying5 g3
        simp at e0 e1 e2 e3
        subst e0 e1 e2 e3
        have c0 := hcell 0 (by omega)
        have c1 := hcell 1 (by omega)
        have c2 := hcell 2 (by omega)
        have c3 := hcell 3 (by omega)
        rw [add_add] at c0 c1 c2 c3
        exact ⟨⟨x0, x1, x2, x3⟩, by simpa using c0, by simpa using c1, by simpa using c2, by simpa using c3, u8_wf f0, u8_wf f1, u8_wf f2, u8_wf f3⟩
    obtain ⟨q, hq⟩ := @choose_lt X ⟨⟨0, 0, 0, 0⟩⟩ m _ each
    by_cases hm0 : 0 < m
    · obtain ⟨b, off, sp⟩ := a
      have hsp : sp = none := by
        have := (hq 0 hm0).1
        rw [show 0 * 4 = 0 from rfl] at this
        cases sp with
        | none => rfl
        | some s =>
          simp only [Addr.add, if_pos, World.cell?] at this
          split at this
          · simp at this
          · cases this
      subst hsp
      refine ⟨_, _, _, b, off, (List.range len).map q, rfl, ⟨by rw [flat_len]; simp, hl, hmx, fun _ => rfl, lies_of fun i r hr => ?_⟩, fun p hp => ?_⟩
      case refine_2 =>
        obtain ⟨i, hi, rfl⟩ := List.mem_map.1 hp
        exact (hq i (by have := List.mem_range.1 hi; omega)).2.2.2.2
      have hi : i < len := by
        have := (List.getElem?_eq_some_iff.1 hr).1
        simpa using this
      have er : r = q i := by
        rw [List.getElem?_map, List.getElem?_range hi] at hr
        simpa using hr.symm
      subst er
      obtain ⟨c0, c1, c2, c3, -⟩ := hq i (by omega)
      rw [Addr.add_lit] at c0 c1 c2 c3
      exact ⟨c0, by rw [Nat.add_assoc]; exact c1, by rw [Nat.add_assoc]; exact c2, by rw [Nat.add_assoc]; exact c3⟩
    · obtain rfl : m = 0 := by omega
      obtain rfl : len = 0 := by omega
      exact ⟨_, _, _, 0, 0, [], rfl, vx_nil _ _, fun p hp => by cases hp⟩

/-- a rectangle's numbers -/
theorem open_four {H : Type} {enc : TypeId × Value → H} {W : World} {fuel : Nat} {c0 c1 c2 c3 : Value} {x : DataW H × List MemPlace} (hf : DataW.trod enc Try.prog W 0 (fun _ => true) true fuel 23 [c0, c1, c2, c3] = some x) :
    ∃ x0 x1 x2 x3 : Int, c0 = .int .i64 x0 ∧ c1 = .int .i64 x1 ∧ c2 = .int .i64 x2 ∧ c3 = .int .i64 x3 := by
  obtain ⟨xs, n, _, hx, hl, hlen, hg⟩ := DataW.trod_struct Try.underlying23 hf
  match xs, hlen with
  | [y0, y1, y2, y3], _ =>
    have g0 := hg 0 _ rfl
    have g1 := hg 1 _ rfl
    have g2 := hg 2 _ rfl
    have g3 := hg 3 _ rfl
    simp [cells3] at g0 g1 g2 g3
    obtain ⟨x0, e0, -, -⟩ := DataW.trod_int Try.underlying3 g0
    obtain ⟨x1, e1, -, -⟩ := DataW.trod_int Try.underlying3 g1
    obtain ⟨x2, e2, -, -⟩ := DataW.trod_int Try.underlying3 g2
    obtain ⟨x3, e3, -, -⟩ := DataW.trod_int Try.underlying3 g3
    simp at e0 e1 e2 e3
    exact ⟨x0, x1, x2, x3, e0, e1, e2, e3⟩

theorem open_rect {H : Type} {enc : TypeId × Value → H} {W : World} {base : Nat} {v : Value} {d : DataW H} {p : List MemPlace}
    (hv : Value.okWide Try.prog W .any base 23 v) (h : DataW.Trod enc Try.prog W 0 (fun _ => true) true 23 v d p) : ∃ B : R, v = .agg #[.int .i64 B.x0, .int .i64 B.y0, .int .i64 B.x1, .int .i64 B.y1] := by
  obtain ⟨cs, rfl, hsz⟩ := okWide_struct Try.underlying23 hv
  rw [cells23] at hsz
  obtain ⟨l⟩ := cs
  obtain ⟨c0, c1, c2, c3, rfl⟩ := list4 l hsz
  obtain ⟨fuel, hf⟩ := h
  obtain ⟨x0, x1, x2, x3, rfl, rfl, rfl, rfl⟩ := open_four (by simpa [Value.cells] using hf)
  exact ⟨⟨x0, x1, x2, x3⟩, rfl⟩

theorem open_buf {H : Type} {enc : TypeId × Value → H} {W : World} {base : Nat} {v : Value} {d : DataW H} {p : List MemPlace}
    (hv : Value.okWide Try.prog W .any base 26 v) (h : DataW.Trod enc Try.prog W 0 (fun _ => true) true 26 v d p) : ∃ (B : R) (ao : Option Addr) (n c g off : Nat) (l : List X), v = .agg #[.int .i64 B.x0, .int .i64 B.y0, .int .i64 B.x1, .int .i64 B.y1, .slice ao n c] ∧ Vx W ao n c g off l ∧ ∀ p, p ∈ l → byteX p := by
  obtain ⟨cs, rfl, hsz⟩ := okWide_struct Try.underlying26 hv
  rw [cells26] at hsz
  obtain ⟨l⟩ := cs
  obtain ⟨c0, c1, c2, c3, c4, rfl⟩ := list5 l hsz
  obtain ⟨fuel, hf⟩ := h
  obtain ⟨xs, n, _, hx, hl, hlen, hg⟩ := DataW.trod_struct Try.underlying26 hf
  match xs, hlen with
  | [y0, y1], _ =>
    have g0 := hg 0 _ rfl
    have g1 := hg 1 _ rfl
    simp [cells23, cells24, Value.cells] at g0 g1
    obtain ⟨x0, x1, x2, x3, rfl, rfl, rfl, rfl⟩ := open_four g0
    obtain ⟨ao, m, c, b, off, l, rfl, hV, hB⟩ := open_pixels g1
    exact ⟨⟨x0, x1, x2, x3⟩, ao, m, c, b, off, l, rfl, hV, hB⟩

theorem open_px {H : Type} {enc : TypeId × Value → H} {W : World} {base : Nat} {v : Value} {d : DataW H} {p : List MemPlace}
    (hv : Value.okWide Try.prog W .any base 28 v) (h : DataW.Trod enc Try.prog W 0 (fun _ => true) true 28 v d p) : ∃ x : X, v = .agg #[.int .u8 x.c0, .int .u8 x.c1, .int .u8 x.c2, .int .u8 x.c3] ∧ byteX x := by
  obtain ⟨cs, rfl, hsz, _⟩ : ∃ cs, v = .agg cs ∧ cs.size = Try.prog.cellsOf 28 ∧ Row.okWide Try.prog W .any base 28 cs := by
    simpa [Value.okWide, Try.underlying28] using hv
  rw [cells28] at hsz
  obtain ⟨l⟩ := cs
  obtain ⟨c0, c1, c2, c3, rfl⟩ := list4 l hsz
  obtain ⟨fuel, hf⟩ := h
  obtain ⟨y0, y1, y2, y3, m, hx, hy0, hy1, hy2, hy3⟩ := trod_array4 Try.underlying28 cells5 hf
  obtain ⟨x0, e0, -, f0⟩ := DataW.trod_int Try.underlying5 hy0
  obtain ⟨x1, e1, -, f1⟩ := DataW.trod_int Try.underlying5 hy1
  obtain ⟨x2, e2, -, f2⟩ := DataW.trod_int Try.underlying5 hy2
  obtain ⟨x3, e3, -, f3⟩ := DataW.trod_int Try.underlying5 hy3
  simp at e0 e1 e2 e3
  subst e0 e1 e2 e3
  exact ⟨⟨x0, x1, x2, x3⟩, rfl, u8_wf f0, u8_wf f1, u8_wf f2, u8_wf f3⟩
end Go.Proofs.Ytfgfgfmimejpdaa
