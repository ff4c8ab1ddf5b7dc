/- How a list of numbers that is handed in is read. -/
import Derived.ProofKit
import Derived.OpenShut
import Derived.RowKit3
import Derived.Carry
import Derived.Deep.Slices
import Derived.Test.YtageofpkfghllaaInts
namespace Go.Proofs.Ytageofpkfghllaa
open Num Go.ChangeShapes Go.WideShapes Go.ChangeAt Go.RowKit Go.Deep

theorem cells3 : Try.prog.cellsOf 3 = 1 := by kernel_rfl
theorem cells5 : Try.prog.cellsOf 5 = 1 := by kernel_rfl
theorem cells24 : Try.prog.cellsOf 24 = 4 := by kernel_rfl
theorem laidOut : laidOutB Try.prog = true := by kernel_rfl

theorem open_ints {H : Type} {enc : TypeId × Value → H} {W : World} {base : Nat} {v : Value} {d : DataW H} {p : List MemPlace}
    (hv : Value.okWide Try.prog W .any base 22 v) (h : DataW.Trod enc Try.prog W 0 (fun _ => true) true 22 v d p) : ∃ ao n c b off l, v = .slice ao n c ∧ Vi W ao n c b off l := by
  obtain ⟨ao0, n0, c0, rfl⟩ := okWide_slice Try.underlying22 hv
  obtain ⟨fuel, hf⟩ := h
  rcases open_slice Try.underlying22 hf with ⟨hcs, -⟩ | ⟨a, len, cap, m, n', D, Pl, hcs, -, hl, hmx, hmm, -, hx⟩
  · simp [Value.cells] at hcs
    obtain ⟨rfl, rfl, rfl⟩ := hcs
    exact ⟨_, _, _, 0, 0, [], rfl, vi_nil _ _⟩
  · simp [Value.cells] at hcs
    obtain ⟨rfl, rfl, rfl⟩ := hcs
    have hmc : m = c0 := by simpa using hmm
    subst hmc
    rw [cells3] at hx
    have each : ∀ i, i < m → ∃ r : Int, W.cell? (a.add i) = some (.int .i64 r) := by
      intro i hi
      obtain ⟨cs', h1, h2⟩ := hx i hi
      obtain ⟨_, hlen, hcell⟩ := World.cells?_some h1
      match cs', hlen with
      | [v0], _ =>
        obtain ⟨x0, e0, -, -⟩ := DataW.trod_int Try.underlying3 h2
        simp at e0
        subst e0
        have c0 := hcell 0 (by omega)
        rw [add_add] at c0
        exact ⟨x0, by simpa using c0⟩
    obtain ⟨q, hq⟩ := @choose_lt Int ⟨0⟩ m _ each
    by_cases hm0 : 0 < m
    · obtain ⟨b, off, sp⟩ := a
      have hsp : sp = none := by
        have := hq 0 hm0
        cases sp with
        | none => rfl
        | some s =>
          simp only [Addr.add, if_pos, World.cell?] at this
          split at this
          · simp at this
          · cases this
      subst hsp
      refine ⟨_, _, _, b, off, (List.range n0).map q, rfl, ⟨by rw [ints_len]; simp, hl, hmx, fun _ => rfl, fun j u hu => ?_⟩⟩
      have hj : j < n0 := by
        have := (List.getElem?_eq_some_iff.1 hu).1
        rw [ints_len] at this
        simpa using this
      have er : u = .int .i64 (q j) := by
        unfold ints at hu
        rw [List.getElem?_map, List.getElem?_map, List.getElem?_range hj] at hu
        simpa using hu.symm
      subst er
      have c0 := hq j (by omega)
      rw [Addr.add_lit] at c0
      exact c0
    · obtain rfl : m = 0 := by omega
      obtain rfl : n0 = 0 := by omega
      exact ⟨_, _, _, 0, 0, [], rfl, vi_nil _ _⟩

end Go.Proofs.Ytageofpkfghllaa
