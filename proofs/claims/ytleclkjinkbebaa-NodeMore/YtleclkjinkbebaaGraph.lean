/- Filters in memory: nodes of three cells each, with lists of numbers behind them. -/
import Derived.Test.YtleclkjinkbebaaInts
import Derived.Test.YtleclkjinkbebaaOrdNum
import Derived.Laws.IdiomCopy
import Derived.Deep.LoopGhost
import Derived.Deep.Light
import Derived.BigQuiet
namespace Go.Proofs.Ytleclkjinkbebaa
open Num Go.RowKit
set_option linter.unusedVariables false
set_option linter.unusedSimpArgs false

/-- a node: what it does, its inputs and its numbers, and where they lie -/
structure Nv where
  op : Int
  ai : Option Addr
  ni : Nat
  ci : Nat
  bi : Nat
  oi : Nat
  l : List Int
  ap : Option Addr
  np : Nat
  cp : Nat
  bp : Nat
  ob : Nat
  p : List Int
def cellsN (v : Nv) : List Value := [.int .i64 v.op, .slice v.ai v.ni v.ci, .slice v.ap v.np v.cp]
def flatN (L : List Nv) : List Value := L.flatMap cellsN
theorem flatN_cons (v : Nv) (L : List Nv) : flatN (v :: L) = .int .i64 v.op :: .slice v.ai v.ni v.ci :: .slice v.ap v.np v.cp :: flatN L := rfl
theorem flatN_len : ∀ L : List Nv, (flatN L).length = L.length * 3
  | [] => rfl
  | v :: L => by rw [flatN_cons]; simp only [List.length_cons]; rw [flatN_len L]; omega
theorem flatN_at : ∀ {L : List Nv} {i : Nat} {v : Nv}, L[i]? = some v → (flatN L)[i * 3]? = some (.int .i64 v.op) ∧ (flatN L)[i * 3 + 1]? = some (.slice v.ai v.ni v.ci) ∧ (flatN L)[i * 3 + 2]? = some (.slice v.ap v.np v.cp)
  | v :: L, 0, u, h => by
    simp only [List.getElem?_cons_zero, Option.some.injEq] at h
    subst h
    rw [flatN_cons]
    exact ⟨rfl, rfl, rfl⟩
  | v :: L, i + 1, u, h => by
    rw [List.getElem?_cons_succ] at h
    have := flatN_at h
    rw [flatN_cons, show (i + 1) * 3 = i * 3 + 1 + 1 + 1 by omega]
    simpa using this
/-- a slice of nodes -/
structure Vn (w : World) (ao : Option Addr) (n c b off : Nat) (L : List Nv) : Prop where
  z : Vz 3 w ao n c b off (flatN L)
  i : ∀ v, v ∈ L → Vi w v.ai v.ni v.ci v.bi v.oi v.l
  p : ∀ v, v ∈ L → Vi w v.ap v.np v.cp v.bp v.ob v.p
theorem Vn.below {w w' : World} {ao : Option Addr} {n c b off : Nat} {L : List Nv} (h : Vn w ao n c b off L) (hb : Below w.heap.size w w') : Vn w' ao n c b off L := ⟨h.z.below hb, fun v hv => (h.i v hv).below hb, fun v hv => (h.p v hv).below hb⟩
theorem vn_len {w : World} {ao : Option Addr} {n c b off : Nat} {L : List Nv} (h : Vn w ao n c b off L) : L.length = n := by have := h.z.len; rw [flatN_len] at this; omega
theorem vn_at {w : World} {ao : Option Addr} {n c b off : Nat} {L : List Nv} (h : Vn w ao n c b off L) {i : Nat} {v : Nv} (hi : L[i]? = some v) :
    ao = some ⟨b, off, none⟩ ∧ (w.cell? ⟨b, off + i * 3, none⟩ = some (.int .i64 v.op) ∧ w.cell? ⟨b, off + i * 3 + 1, none⟩ = some (.slice v.ai v.ni v.ci) ∧ w.cell? ⟨b, off + i * 3 + 2, none⟩ = some (.slice v.ap v.np v.cp)) ∧ Vi w v.ai v.ni v.ci v.bi v.oi v.l ∧ Vi w v.ap v.np v.cp v.bp v.ob v.p := by
  have hl := vn_len h
  have hlt : i < L.length := (List.getElem?_eq_some_iff.1 hi).1
  obtain ⟨e0, e1, e2⟩ := flatN_at hi
  exact ⟨h.z.addr (by have := h.z.le; omega), ⟨h.z.lies _ _ e0, h.z.lies _ _ e1, h.z.lies _ _ e2⟩, h.i v (List.mem_of_getElem? hi), h.p v (List.mem_of_getElem? hi)⟩
theorem vn_nil (w : World) (ao : Option Addr) : Vn w ao 0 0 0 0 [] := ⟨(oz_nil 3 0 w ao).v, fun v hv => (by cases hv), fun v hv => (by cases hv)⟩
/-- the nodes' inputs -/
def insL (L : List Nv) : List (List Int) := L.map Nv.l
theorem insL_len (L : List Nv) : (insL L).length = L.length := by unfold insL; simp
theorem insL_at {L : List Nv} {i : Nat} {v : Nv} (h : L[i]? = some v) : inL (insL L) i = v.l := by unfold inL insL; rw [List.getD_eq_getElem?_getD, List.getElem?_map, h]; rfl
/-- few nodes, with few inputs -/
structure Few (n : Nat) (L : List Nv) : Prop where
  n : n ≤ 1000
  i : ∀ v, v ∈ L → v.ni ≤ 1000

end Go.Proofs.Ytleclkjinkbebaa
