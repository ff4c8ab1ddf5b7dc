/- Filters in memory: nodes of three cells each, with lists of numbers behind them. -/
import Derived.Test.YtccbgekijnkhpaaInts
import Derived.Test.YtccbgekijnkhpaaOrdNum
import Derived.Laws.IdiomCopy
import Derived.Deep.LoopGhost
import Derived.Deep.Light
import Derived.BigQuiet
namespace Go.Proofs.Ytccbgekijnkhpaa
open Num Go.RowKit
set_option linter.unusedVariables false
set_option linter.unusedSimpArgs false

/-- a node: what it does, its inputs and its numbers, and where they lie -/
structure Nv where
  op : Int
  ai : Option Addr
  ni : Nat
  ci : Nat
  bi : Nat
  oi : Nat
  l : List Int
  ap : Option Addr
  np : Nat
  cp : Nat
  bp : Nat
  ob : Nat
  p : List Int
def cellsN (v : Nv) : List Value := [.int .i64 v.op, .slice v.ai v.ni v.ci, .slice v.ap v.np v.cp]
def flatN (L : List Nv) : List Value := L.flatMap cellsN
theorem flatN_cons (v : Nv) (L : List Nv) : flatN (v :: L) = .int .i64 v.op :: .slice v.ai v.ni v.ci :: .slice v.ap v.np v.cp :: flatN L := rfl
theorem flatN_len : ∀ L : List Nv, (flatN L).length = L.length * 3
  | [] => rfl
  | v :: L => by rw [flatN_cons]; simp only [List.length_cons]; rw [flatN_len L]; omega
theorem flatN_at : ∀ {L : List Nv} {i : Nat} {v : Nv}, L[i]? = some v → (flatN L)[i * 3]? = some (.int .i64 v.op) ∧ (flatN L)[i * 3 + 1]? = some (.slice v.ai v.ni v.ci) ∧ (flatN L)[i * 3 + 2]? = some (.slice v.ap v.np v.cp)
  | v :: L, 0, u, h => by
    simp only [List.getElem?_cons_zero, Option.some.injEq] at h
    subst h
    rw [flatN_cons]
    exact ⟨rfl, rfl, rfl⟩
  | v :: L, i + 1, u, h => by
    rw [List.getElem?_cons_succ] at h
    have := flatN_at h
    rw [flatN_cons, show (i + 1) * 3 = i * 3 + 1 + 1 + 1 by omega]
    simpa using this
/-- a slice of nodes -/
structure Vn (w : World) (ao : Option Addr) (n c b off : Nat) (L : List Nv) : Prop where
  z : Vz 3 w ao n c b off (flatN L)
  i : ∀ v, v ∈ L → Vi w v.ai v.ni v.ci v.bi v.oi v.l
  p : ∀ v, v ∈ L → Vi w v.ap v.np v.cp v.bp v.ob v.p
theorem Vn.below {w w' : World} {ao : Option Addr} {n c b off : Nat} {L : List Nv} (h : Vn w ao n c b off L) (hb : Below w.heap.size w w') : Vn w' ao n c b off L := ⟨h.z.below hb, fun v hv => (h.i v hv).below hb, fun v hv => (h.p v hv).below hb⟩
theorem vn_len {w : World} {ao : Option Addr} {n c b off : Nat} {L : List Nv} (h : Vn w ao n c b off L) : L.length = n := by have := h.z.len; rw [flatN_len] at this; omega
theorem vn_at {w : World} {ao : Option Addr} {n c b off : Nat} {L : List Nv} (h : Vn w ao n c b off L) {i : Nat} {v : Nv} (hi : L[i]? = some v) :
    ao = some ⟨b, off, none⟩ ∧ (w.cell? ⟨b, off + i * 3, none⟩ = some (.int .i64 v.op) ∧ w.cell? ⟨b, off + i * 3 + 1, none⟩ = some (.slice v.ai v.ni v.ci) ∧ w.cell? ⟨b, off + i * 3 + 2, none⟩ = some (.slice v.ap v.np v.cp)) ∧ Vi w v.ai v.ni v.ci v.bi v.oi v.l ∧ Vi w v.ap v.np v.cp v.bp v.ob v.p := by
  have hl := vn_len h
  have hlt : i < L.length := (List.getElem?_eq_some_iff.1 hi).1
  obtain ⟨e0, e1, e2⟩ := flatN_at hi
  exact ⟨h.z.addr (by have := h.z.le; omega), ⟨h.z.lies _ _ e0, h.z.lies _ _ e1, h.z.lies _ _ e2⟩, h.i v (List.mem_of_getElem? hi), h.p v (List.mem_of_getElem? hi)⟩
theorem vn_nil (w : World) (ao : Option Addr) : Vn w ao 0 0 0 0 [] := ⟨(oz_nil 3 0 w ao).v, fun v hv => (by cases hv), fun v hv => (by cases hv)⟩
/-- the nodes' inputs -/
def insL (L : List Nv) : List (List Int) := L.map Nv.l
theorem insL_len (L : List Nv) : (insL L).length = L.length := by unfold insL; simp
theorem insL_at {L : List Nv} {i : Nat} {v : Nv} (h : L[i]? = some v) : inL (insL L) i = v.l := by unfold inL insL; rw [List.getD_eq_getElem?_getD, List.getElem?_map, h]; rfl
/-- few nodes, with few inputs -/
structure Few (n : Nat) (L : List Nv) : Prop where
  n : n ≤ 1000
  i : ∀ v, v ∈ L → v.ni ≤ 1000

set_option maxRecDepth 100000 in
set_option maxHeartbeats 1000000 in
theorem has25_any (ao : Option Addr) (n c b off : Nat) (L : List Nv) (out : Int) (i : Nat) (x : Int) (w : World) (h : Vn w ao n c b off L) (hf : Few n L) (hi : i < n) :
    Calls Try.prog 25 #[.agg #[.slice ao n c, .int .i64 out], .int .i64 i, .int .i64 x] w fun e w' => e = .returned (.bool ((inL (insL L) i).contains x)) ∧ Below w.heap.size w w' := by
  have hl := vn_len h
  obtain ⟨v, hv⟩ : ∃ v, L[i]? = some v := ⟨_, List.getElem?_eq_getElem (by rw [hl]; exact hi)⟩
  rw [insL_at hv]
  obtain ⟨rfl, ⟨c0, c1, c2⟩, hvi, hvp⟩ := vn_at h hv
  have hni := hf.i v (List.mem_of_getElem? hv)
  have hn := hf.n
  have hlv := vi_len hvi
  have hiz : (i : Int) < (n : Int) := by omega
  have hb := World.block_lt_of_cell? _ _ c1
  have HV := hid (And.intro hvi hlv)
  clear h hv hf hvi hvp c0 c2 hl hlv
  generalize hbv : v.bi = bi at HV
  generalize hov : v.oi = oi at HV
  generalize hav : v.ai = ai at *
  generalize hnv : v.ni = ni at *
  generalize hcv : v.ci = ci at *
  generalize hlv : v.l = l at *
  clear hbv hov hav hnv hcv hlv v
  go_enter Try.func25, Try.ntmps25
  go_wp2
  go_loopg [7] ni (fun g k wr => ∃ j : Nat, j ≤ ni ∧ g = ni - j ∧ k = .int .i64 j ∧ wr = w.alloc (.cells #[.slice (some ⟨b, off, none⟩) n c, .int .i64 out] 24) ∧ (l.drop j).contains x = l.contains x)
  case atStart => exact ⟨0, Nat.zero_le _, rfl, rfl, rfl, rfl⟩
  case round =>
    obtain ⟨j, hj, rfl, rfl, rfl, hs⟩ := hrel
    by_cases hlt : j < ni
    · have hlz : (j : Int) < (ni : Int) := by omega
      obtain ⟨m, hm⟩ : ∃ m, l[j]? = some m := ⟨_, List.getElem?_eq_getElem (by rw [HV.out.2]; exact hlt)⟩
      obtain ⟨rfl, d0⟩ := vi_at (HV.out.1.below ((Below.refl _ _).alloc (Nat.le_refl _) (.cells #[.slice (some ⟨b, off, none⟩) n c, .int .i64 out] 24))) hm
      have hc : (l.drop j).contains x = (decide (m = x) || (l.drop (j + 1)).contains x) := by
        obtain ⟨h1, rfl⟩ := List.getElem?_eq_some_iff.1 hm
        rw [List.drop_eq_getElem_cons h1, List.contains_cons]
        congr 1
        rw [Bool.eq_iff_iff]; simp; exact eq_comm
      rw [hc] at hs
      have HS := hid hs
      clear hs hc hm
      by_cases e : m = x
      · go_wp2
        go_ret
        exact ⟨ret_bool (by rw [← HS.out]; simp [e]), (Below.refl _ _).alloc (Nat.le_refl _) _⟩
      · go_wp2
        go_roundg (ni - (j + 1))
        case measure => omega
        case rel => exact ⟨j + 1, hlt, rfl, by simp, rfl, by rw [← HS.out]; simp [e]⟩
    · obtain rfl : j = ni := by omega
      have HS := hid hs
      clear hs
      go_wp2
      go_ret
      exact ⟨ret_bool (by rw [← HS.out, List.drop_eq_nil_of_le (by rw [HV.out.2]; exact Nat.le_refl _)]; rfl), (Below.refl _ _).alloc (Nat.le_refl _) _⟩
end Go.Proofs.Ytccbgekijnkhpaa
