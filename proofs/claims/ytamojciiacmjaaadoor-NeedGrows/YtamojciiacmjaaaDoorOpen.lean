/- How a filter that is handed in is read. -/
import Derived.ProofKit
import Derived.OpenShut
import Derived.RowKit3
import Derived.Carry
import Derived.Deep.Slices
import Derived.Laws.IdiomArrays
import Derived.Test.YtamojciiacmjaaaDoorMemA
set_option maxRecDepth 100000
namespace Go.Proofs.YtamojciiacmjaaaDoor
open Num Go.ChangeShapes Go.WideShapes Go.ChangeAt Go.RowKit Go.Deep

theorem cells3 : Tryd.prog.cellsOf 3 = 1 := by kernel_rfl
theorem cells34 : Tryd.prog.cellsOf 34 = 1 := by kernel_rfl
theorem cells36 : Tryd.prog.cellsOf 36 = 2 := by kernel_rfl
theorem cells22 : Tryd.prog.cellsOf 22 = 1 := by kernel_rfl
theorem cells24 : Tryd.prog.cellsOf 24 = 3 := by kernel_rfl
theorem laidOut : laidOutB Tryd.prog = true := by kernel_rfl

theorem open_ints {H : Type} {enc : TypeId × Value → H} {W : World} {fuel : Nat} {u : Value} {x : DataW H × List MemPlace} (hf : DataW.trod enc Tryd.prog W 0 (fun _ => true) true fuel 22 [u] = some x) : ∃ ao n c b off l, u = .slice ao n c ∧ Vi W ao n c b off l := by
  rcases open_slice Tryd.underlying22 hf with ⟨hcs, -⟩ | ⟨a, len, cap, m, n', D, Pl, hcs, -, hl, hmx, hmm, -, hx⟩
  · simp at hcs
    subst hcs
    exact ⟨_, _, _, 0, 0, [], rfl, vi_nil _ _⟩
  · simp at hcs
    subst hcs
    have hmc : m = cap := by simpa using hmm
    subst hmc
    rw [cells3] at hx
    have each : ∀ i, i < m → ∃ r : Int, W.cell? (a.add i) = some (.int .i64 r) := by
      intro i hi
      obtain ⟨cs', h1, h2⟩ := hx i hi
      obtain ⟨_, hlen, hcell⟩ := World.cells?_some h1
      match cs', hlen with
      | [v0], _ =>
        obtain ⟨x0, e0, -, -⟩ := DataW.trod_int Tryd.underlying3 h2
        simp at e0
        subst e0
        have c0 := hcell 0 (by omega)
        rw [add_add] at c0
        exact ⟨x0, by simpa using c0⟩
    obtain ⟨q, hq⟩ := @choose_lt Int ⟨0⟩ m _ each
    by_cases hm0 : 0 < m
    · obtain ⟨b, off, sp⟩ := a
      have hsp : sp = none := by
        have := hq 0 hm0
        cases sp with
        | none => rfl
        | some s =>
          simp only [Addr.add, if_pos, World.cell?] at this
          split at this
          · simp at this
          · cases this
      subst hsp
      refine ⟨_, _, _, b, off, (List.range len).map q, rfl, ⟨by rw [ints_len]; simp, hl, hmx, fun _ => rfl, fun j u hu => ?_⟩⟩
      have hj : j < len := by
        have := (List.getElem?_eq_some_iff.1 hu).1
        rw [ints_len] at this
        simpa using this
      have er : u = .int .i64 (q j) := by
        unfold ints at hu
        rw [List.getElem?_map, List.getElem?_map, List.getElem?_range hj] at hu
        simpa using hu.symm
      subst er
      have c0 := hq j (by omega)
      rw [Addr.add_lit] at c0
      exact c0
    · obtain rfl : m = 0 := by omega
      obtain rfl : len = 0 := by omega
      exact ⟨_, _, _, 0, 0, [], rfl, vi_nil _ _⟩
theorem open_node {H : Type} {enc : TypeId × Value → H} {W : World} {fuel : Nat} {c0 c1 c2 : Value} {x : DataW H × List MemPlace} (hf : DataW.trod enc Tryd.prog W 0 (fun _ => true) true fuel 24 [c0, c1, c2] = some x) :
    ∃ v : Nv, (c0 = .int .i64 v.op ∧ c1 = .slice v.ai v.ni v.ci ∧ c2 = .slice v.ap v.np v.cp) ∧ Vi W v.ai v.ni v.ci v.bi v.oi v.l ∧ Vi W v.ap v.np v.cp v.bp v.ob v.p := by
  obtain ⟨xs, n, _, hx, hl, hlen, hg⟩ := DataW.trod_struct Tryd.underlying24 hf
  match xs, hlen with
  | [y0, y1, y2], _ =>
    have g0 := hg 0 _ rfl
    have g1 := hg 1 _ rfl
    have g2 := hg 2 _ rfl
    simp [cells3, cells22] at g0 g1 g2
    obtain ⟨x0, e0, -, -⟩ := DataW.trod_int Tryd.underlying3 g0
    simp at e0
    subst e0
    obtain ⟨ai, ni, ci, bi, oi, l, rfl, hV⟩ := open_ints g1
    obtain ⟨ap, np, cp, bp, ob, p, rfl, hP⟩ := open_ints g2
    exact ⟨⟨x0, ai, ni, ci, bi, oi, l, ap, np, cp, bp, ob, p⟩, ⟨rfl, rfl, rfl⟩, hV, hP⟩
theorem liesN_of {w : World} {b off : Nat} {L : List Nv} (h : ∀ i v, L[i]? = some v → w.cell? ⟨b, off + i * 3, none⟩ = some (.int .i64 v.op) ∧ w.cell? ⟨b, off + i * 3 + 1, none⟩ = some (.slice v.ai v.ni v.ci) ∧ w.cell? ⟨b, off + i * 3 + 2, none⟩ = some (.slice v.ap v.np v.cp)) : Lies w b off (flatN L) := by
  intro j u hu
  have hj : j < (flatN L).length := (List.getElem?_eq_some_iff.1 hu).1
  rw [flatN_len] at hj
  obtain ⟨r, hr⟩ : ∃ r, L[j / 3]? = some r := ⟨_, List.getElem?_eq_getElem (by omega)⟩
  obtain ⟨c0, c1, c2⟩ := h _ r hr
  obtain ⟨e0, e1, e2⟩ := flatN_at hr
  have hm : j % 3 = 0 ∨ j % 3 = 1 ∨ j % 3 = 2 := by omega
  rcases hm with hm | hm | hm
  · rw [show j / 3 * 3 = j by omega] at e0 c0
    rw [c0, ← hu, e0]
  · rw [show j / 3 * 3 + 1 = j by omega] at e1
    rw [show off + j / 3 * 3 + 1 = off + j by omega] at c1
    rw [c1, ← hu, e1]
  · rw [show j / 3 * 3 + 2 = j by omega] at e2
    rw [show off + j / 3 * 3 + 2 = off + j by omega] at c2
    rw [c2, ← hu, e2]
theorem open_nodes {H : Type} {enc : TypeId × Value → H} {W : World} {fuel : Nat} {u : Value} {x : DataW H × List MemPlace} (hf : DataW.trod enc Tryd.prog W 0 (fun _ => true) true fuel 34 [u] = some x) : ∃ ao n c b off L, u = .slice ao n c ∧ Vn W ao n c b off L := by
  rcases open_slice Tryd.underlying34 hf with ⟨hcs, -⟩ | ⟨a, len, cap, m, n', D, Pl, hcs, -, hl, hmx, hmm, -, hx⟩
  · simp at hcs
    subst hcs
    exact ⟨_, _, _, 0, 0, [], rfl, vn_nil _ _⟩
  · simp at hcs
    subst hcs
    have hmc : m = cap := by simpa using hmm
    subst hmc
    rw [cells24] at hx
    have each : ∀ i, i < m → ∃ v : Nv, (W.cell? (a.add (i * 3)) = some (.int .i64 v.op) ∧ W.cell? (a.add (i * 3 + 1)) = some (.slice v.ai v.ni v.ci) ∧ W.cell? (a.add (i * 3 + 2)) = some (.slice v.ap v.np v.cp)) ∧ Vi W v.ai v.ni v.ci v.bi v.oi v.l ∧ Vi W v.ap v.np v.cp v.bp v.ob v.p := by
      intro i hi
      obtain ⟨cs', h1, h2⟩ := hx i hi
      obtain ⟨_, hlen, hcell⟩ := World.cells?_some h1
      match cs', hlen with
      | [v0, v1, v2], _ =>
        obtain ⟨v, ⟨rfl, rfl, rfl⟩, hV, hP⟩ := open_node h2
        have c0 := hcell 0 (by omega)
        have c1 := hcell 1 (by omega)
        have c2 := hcell 2 (by omega)
        rw [add_add] at c0 c1 c2
        exact ⟨v, ⟨by simpa using c0, by simpa using c1, by simpa using c2⟩, hV, hP⟩
    obtain ⟨q, hq⟩ := @choose_lt Nv ⟨⟨0, none, 0, 0, 0, 0, [], none, 0, 0, 0, 0, []⟩⟩ m _ each
    by_cases hm0 : 0 < m
    · obtain ⟨b, off, sp⟩ := a
      have hsp : sp = none := by
        have := (hq 0 hm0).1.1
        rw [show 0 * 3 = 0 from rfl] at this
        cases sp with
        | none => rfl
        | some s =>
          simp only [Addr.add, if_pos, World.cell?] at this
          split at this
          · simp at this
          · cases this
      subst hsp
      refine ⟨_, _, _, b, off, (List.range len).map q, rfl, ⟨⟨by rw [flatN_len]; simp, hl, hmx, fun _ => rfl, liesN_of fun i r hr => ?_⟩, fun v hv => ?_, fun v hv => ?_⟩⟩
      · have hi : i < len := by
          have := (List.getElem?_eq_some_iff.1 hr).1
          simpa using this
        have er : r = q i := by
          rw [List.getElem?_map, List.getElem?_range hi] at hr
          simpa using hr.symm
        subst er
        obtain ⟨⟨c0, c1, c2⟩, -⟩ := hq i (by omega)
        rw [Addr.add_lit] at c0 c1 c2
        exact ⟨c0, by rw [Nat.add_assoc]; exact c1, by rw [Nat.add_assoc]; exact c2⟩
      · obtain ⟨i, hi, rfl⟩ := List.mem_map.1 hv
        exact (hq i (by have := List.mem_range.1 hi; omega)).2.1
      · obtain ⟨i, hi, rfl⟩ := List.mem_map.1 hv
        exact (hq i (by have := List.mem_range.1 hi; omega)).2.2
    · obtain rfl : m = 0 := by omega
      obtain rfl : len = 0 := by omega
      exact ⟨_, _, _, 0, 0, [], rfl, vn_nil _ _⟩
theorem list2 {α : Type} (l : List α) (h : (⟨l⟩ : Array α).size = 2) : ∃ a b, l = [a, b] := by
  match l, h with
  | [a, b], _ => exact ⟨a, b, rfl⟩
theorem open_graph {H : Type} {enc : TypeId × Value → H} {W : World} {base : Nat} {v : Value} {d : DataW H} {p : List MemPlace}
    (hv : Value.okWide Tryd.prog W .any base 36 v) (h : DataW.Trod enc Tryd.prog W 0 (fun _ => true) true 36 v d p) : ∃ (ao : Option Addr) (n c b off : Nat) (L : List Nv) (out : Int), v = .agg #[.slice ao n c, .int .i64 out] ∧ Vn W ao n c b off L := by
  obtain ⟨cs, rfl, hsz⟩ := okWide_struct Tryd.underlying36 hv
  rw [cells36] at hsz
  obtain ⟨l⟩ := cs
  obtain ⟨c0, c1, rfl⟩ := list2 l hsz
  obtain ⟨fuel, hf⟩ := h
  obtain ⟨xs, n, _, hx, hl, hlen, hg⟩ := DataW.trod_struct Tryd.underlying36 hf
  match xs, hlen with
  | [y0, y1], _ =>
    have g0 := hg 0 _ rfl
    have g1 := hg 1 _ rfl
    simp [cells3, cells34, Value.cells] at g0 g1
    obtain ⟨ao, m, c, b, off, L, rfl, hV⟩ := open_nodes g0
    obtain ⟨x1, e1, -, -⟩ := DataW.trod_int Tryd.underlying3 g1
    simp at e1
    subst e1
    exact ⟨ao, m, c, b, off, L, x1, rfl, hV⟩
theorem list3 {α : Type} (l : List α) (h : (⟨l⟩ : Array α).size = 3) : ∃ a b c, l = [a, b, c] := by
  match l, h with
  | [a, b, c], _ => exact ⟨a, b, c, rfl⟩
theorem open_nodeV {H : Type} {enc : TypeId × Value → H} {W : World} {base : Nat} {v : Value} {d : DataW H} {p : List MemPlace}
    (hv : Value.okWide Tryd.prog W .any base 24 v) (h : DataW.Trod enc Tryd.prog W 0 (fun _ => true) true 24 v d p) : ∃ u : Nv, v = .agg #[.int .i64 u.op, .slice u.ai u.ni u.ci, .slice u.ap u.np u.cp] ∧ Vi W u.ai u.ni u.ci u.bi u.oi u.l ∧ Vi W u.ap u.np u.cp u.bp u.ob u.p := by
  obtain ⟨cs, rfl, hsz⟩ := okWide_struct Tryd.underlying24 hv
  rw [cells24] at hsz
  obtain ⟨l⟩ := cs
  obtain ⟨c0, c1, c2, rfl⟩ := list3 l hsz
  obtain ⟨fuel, hf⟩ := h
  obtain ⟨u, ⟨rfl, rfl, rfl⟩, h1, h2⟩ := open_node (c0 := c0) (c1 := c1) (c2 := c2) hf
  exact ⟨u, rfl, h1, h2⟩
end Go.Proofs.YtamojciiacmjaaaDoor
