/- How a list of rectangles that is handed in is read. -/
import Derived.ProofKit
import Derived.OpenShut
import Derived.RowKit3
import Derived.Carry
import Derived.Deep.Slices
import Derived.Test.YteiihgoobhlkbaaDoorRgMemA
set_option maxRecDepth 100000
namespace Go.Proofs.YteiihgoobhlkbaaDoor.Rg
open Num Go.ChangeShapes Go.WideShapes Go.ChangeAt Go.RowKit Go.Deep

theorem cells3 : Tryd.prog.cellsOf 3 = 1 := by kernel_rfl
theorem cells34 : Tryd.prog.cellsOf 34 = 4 := by kernel_rfl
theorem laidOut : laidOutB Tryd.prog = true := by kernel_rfl

theorem lies_of {w : World} {b off : Nat} : ∀ {l : List R}, (∀ i r, l[i]? = some r → w.cell? ⟨b, off + i * 4, none⟩ = some (.int .i64 r.x0) ∧ w.cell? ⟨b, off + i * 4 + 1, none⟩ = some (.int .i64 r.y0) ∧ w.cell? ⟨b, off + i * 4 + 2, none⟩ = some (.int .i64 r.x1) ∧ w.cell? ⟨b, off + i * 4 + 3, none⟩ = some (.int .i64 r.y1)) → Lies w b off (flat l) := by
  intro l h j u hu
  have hj : j < (flat l).length := (List.getElem?_eq_some_iff.1 hu).1
  rw [flat_len] at hj
  obtain ⟨r, hr⟩ : ∃ r, l[j / 4]? = some r := ⟨_, List.getElem?_eq_getElem (by omega)⟩
  obtain ⟨c0, c1, c2, c3⟩ := h _ r hr
  obtain ⟨e0, e1, e2, e3⟩ := flat_at hr
  have hm : j % 4 = 0 ∨ j % 4 = 1 ∨ j % 4 = 2 ∨ j % 4 = 3 := by omega
  rcases hm with hm | hm | hm | hm
  · rw [show j / 4 * 4 = j by omega] at e0 c0
    rw [c0, ← hu, e0]
  · rw [show j / 4 * 4 + 1 = j by omega] at e1
    rw [show off + j / 4 * 4 + 1 = off + j by omega] at c1
    rw [c1, ← hu, e1]
  · rw [show j / 4 * 4 + 2 = j by omega] at e2
    rw [show off + j / 4 * 4 + 2 = off + j by omega] at c2
    rw [c2, ← hu, e2]
  · rw [show j / 4 * 4 + 3 = j by omega] at e3
    rw [show off + j / 4 * 4 + 3 = off + j by omega] at c3
    rw [c3, ← hu, e3]

theorem open_rects {H : Type} {enc : TypeId × Value → H} {W : World} {base : Nat} {t : TypeId} {v : Value} {d : DataW H} {p : List MemPlace} (ht : Tryd.prog.underlying t = some (.slice 34))
    (hv : Value.okWide Tryd.prog W .any base t v) (h : DataW.Trod enc Tryd.prog W 0 (fun _ => true) true t v d p) : ∃ ao n c b off l, v = .slice ao n c ∧ Vw W ao n c b off l := by
  obtain ⟨ao, n, c, rfl⟩ := okWide_slice ht hv
  obtain ⟨fuel, hf⟩ := h
  rcases open_slice ht hf with ⟨hcs, -⟩ | ⟨a, len, cap, m, n', D, Pl, hcs, -, hl, hmx, hmm, -, hx⟩
  · simp [Value.cells] at hcs
    obtain ⟨rfl, rfl, rfl⟩ := hcs
    exact ⟨_, _, _, 0, 0, [], rfl, vw_nil _ _⟩
  · simp [Value.cells] at hcs
    obtain ⟨rfl, rfl, rfl⟩ := hcs
    have hmc : m = c := by simpa using hmm
    subst hmc
    rw [cells34] at hx
    have each : ∀ i, i < m → ∃ r : R, W.cell? (a.add (i * 4)) = some (.int .i64 r.x0) ∧ W.cell? (a.add (i * 4 + 1)) = some (.int .i64 r.y0) ∧ W.cell? (a.add (i * 4 + 2)) = some (.int .i64 r.x1) ∧ W.cell? (a.add (i * 4 + 3)) = some (.int .i64 r.y1) := by
      intro i hi
      obtain ⟨cs', h1, h2⟩ := hx i hi
      obtain ⟨_, hlen, hcell⟩ := World.cells?_some h1
      obtain ⟨xs, k, _, _, _, hxl, hg⟩ := DataW.trod_struct Tryd.underlying34 h2
      match xs, hxl, cs', hlen with
      | [y0, y1, y2, y3], _, [v0, v1, v2, v3], _ =>
        have g0 := hg 0 _ rfl
        have g1 := hg 1 _ rfl
        have g2 := hg 2 _ rfl
        have g3 := hg 3 _ rfl
        simp [cells3] at g0 g1 g2 g3
        obtain ⟨x0, e0, -, -⟩ := DataW.trod_int Tryd.underlying3 g0
        obtain ⟨x1, e1, -, -⟩ := DataW.trod_int Tryd.underlying3 g1
        obtain ⟨x2, e2, -, -⟩ := DataW.trod_int Tryd.underlying3 g2
        obtain ⟨x3, e3, -, -⟩ := DataW.trod_int Tryd.underlying3 g3
        simp at e0 e1 e2 e3
        subst e0 e1 e2 e3
        have c0 := hcell 0 (by omega)
        have c1 := hcell 1 (by omega)
        have c2 := hcell 2 (by omega)
        have c3 := hcell 3 (by omega)
        rw [add_add] at c0 c1 c2 c3
        exact ⟨⟨x0, x1, x2, x3⟩, by simpa using c0, by simpa using c1, by simpa using c2, by simpa using c3⟩
    obtain ⟨q, hq⟩ := @choose_lt R ⟨⟨0, 0, 0, 0⟩⟩ m _ each
    by_cases hm0 : 0 < m
    · obtain ⟨b, off, sp⟩ := a
      have hsp : sp = none := by
        have := (hq 0 hm0).1
        rw [show 0 * 4 = 0 from rfl] at this
        cases sp with
        | none => rfl
        | some s =>
          simp only [Addr.add, if_pos, World.cell?] at this
          split at this
          · simp at this
          · cases this
      subst hsp
      refine ⟨_, _, _, b, off, (List.range n).map q, rfl, ⟨by rw [flat_len]; simp, hl, hmx, fun _ => rfl, lies_of fun i r hr => ?_⟩⟩
      have hi : i < n := by
        have := (List.getElem?_eq_some_iff.1 hr).1
        simpa using this
      have er : r = q i := by
        rw [List.getElem?_map, List.getElem?_range hi] at hr
        simpa using hr.symm
      subst er
      obtain ⟨c0, c1, c2, c3⟩ := hq i (by omega)
      rw [Addr.add_lit] at c0 c1 c2 c3
      exact ⟨c0, by rw [Nat.add_assoc]; exact c1, by rw [Nat.add_assoc]; exact c2, by rw [Nat.add_assoc]; exact c3⟩
    · obtain rfl : m = 0 := by omega
      obtain rfl : n = 0 := by omega
      exact ⟨_, _, _, 0, 0, [], rfl, vw_nil _ _⟩
end Go.Proofs.YteiihgoobhlkbaaDoor.Rg
