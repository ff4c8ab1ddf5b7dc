/- Regions in lists; what is known of a node, and of a node's inputs: contracts. -/
import Derived.Test.YteiihgoobhlkbaaDoorSpNum
import Derived.Test.YteiihgoobhlkbaaDoorRgGrowB
import Derived.Test.YteiihgoobhlkbaaDoorNeedA
import Derived.Test.YteiihgoobhlkbaaDoorLawA
import Derived.Deep.RegionHeld3
namespace Go.Proofs.YteiihgoobhlkbaaDoor
open Num Go.RowKit
set_option linter.unusedVariables false
set_option linter.unusedSimpArgs false

/-- a region that lies somewhere -/
structure Rv where
  ao : Option Addr
  n : Nat
  c : Nat
  b : Nat
  off : Nat
  l : List Rg.Num.R
def slR (v : Rv) : Value := .slice v.ao v.n v.c
def slRs (V : List Rv) : List Value := V.map slR
theorem slRs_len (V : List Rv) : (slRs V).length = V.length * 1 := by unfold slRs; simp
theorem slRs_at {V : List Rv} {i : Nat} {v : Rv} (h : V[i]? = some v) : (slRs V)[i]? = some (.slice v.ao v.n v.c) := by unfold slRs; rw [List.getElem?_map, h]; rfl
theorem slRs_set (V : List Rv) (i : Nat) (v : Rv) : slRs (V.set i v) = (slRs V).set i (.slice v.ao v.n v.c) := by unfold slRs; rw [List.map_set]; rfl
def nilR : Rv := ⟨none, 0, 0, 0, 0, []⟩
/-- a region that is read -/
def Rw (w : World) (v : Rv) : Prop := Rg.Vw w v.ao v.n v.c v.b v.off v.l
theorem rw_nil (w : World) : Rw w nilR := (Rg.oz_nil 4 0 w none).v
/-- a list of regions -/
structure Vf (w : World) (ao : Option Addr) (n c b off : Nat) (V : List Rv) : Prop where
  z : Vz 1 w ao n c b off (slRs V)
  v : ∀ v, v ∈ V → Rw w v
theorem Vf.below {w w' : World} {ao : Option Addr} {n c b off : Nat} {V : List Rv} (h : Vf w ao n c b off V) (hb : Below w.heap.size w w') : Vf w' ao n c b off V := ⟨h.z.below hb, fun v hv => Rg.Vz.below (h.v v hv) hb⟩
theorem vf_len {w : World} {ao : Option Addr} {n c b off : Nat} {V : List Rv} (h : Vf w ao n c b off V) : V.length = n := by have := h.z.len; rw [slRs_len] at this; omega
theorem vf_at {w : World} {ao : Option Addr} {n c b off : Nat} {V : List Rv} (h : Vf w ao n c b off V) {i : Nat} {v : Rv} (hi : V[i]? = some v) : ao = some ⟨b, off, none⟩ ∧ w.cell? ⟨b, off + i, none⟩ = some (.slice v.ao v.n v.c) := by
  have hl := vf_len h
  have hlt : i < V.length := (List.getElem?_eq_some_iff.1 hi).1
  exact ⟨h.z.addr (by have := h.z.le; omega), h.z.lies _ _ (slRs_at hi)⟩

/-- what is known of a node -/
def pickV (K : List Rv) (x : Int) : Rv := if 0 ≤ x ∧ x < (K.length : Int) then K.getD x.toNat nilR else nilR
/-- .. of an input -/
def inV (s : Rv) (K : List Rv) (x : Int) : Rv := if x = -1 then s else pickV K x
theorem pickV_rw {w : World} {K : List Rv} (h : ∀ v, v ∈ K → Rw w v) (x : Int) : Rw w (pickV K x) := by
  unfold pickV
  split
  · rename_i hx
    have hlt : x.toNat < K.length := by omega
    rw [List.getD_eq_getElem?_getD, List.getElem?_eq_getElem hlt]
    exact h _ (List.getElem_mem hlt)
  · exact rw_nil w
theorem inV_rw {w : World} {s : Rv} {K : List Rv} (hs : Rw w s) (h : ∀ v, v ∈ K → Rw w v) (x : Int) : Rw w (inV s K x) := by
  unfold inV
  split
  · exact hs
  · exact pickV_rw h x

set_option maxHeartbeats 1000000 in
theorem pick_any (x : Int) (ao : Option Addr) (n c b off : Nat) (K : List Rv) (w : World) (h : Vf w ao n c b off K) :
    Calls Tryd.prog 32 #[.int .i64 x, .slice ao n c] w fun e w' => e = .returned (.slice (pickV K x).ao (pickV K x).n (pickV K x).c) ∧ w' = w := by
  have hl := vf_len h
  have hn := vz_small h.z
  by_cases hx : 0 ≤ x ∧ x < (n : Int)
  · obtain ⟨i, rfl⟩ : ∃ i : Nat, x = (i : Int) := ⟨x.toNat, by omega⟩
    have hi : i < K.length := by omega
    have hv : K[i]? = some (pickV K (i : Int)) := by
      unfold pickV
      rw [hl, if_pos hx, List.getD_eq_getElem?_getD, Int.toNat_natCast, List.getElem?_eq_getElem hi]
      rfl
    obtain ⟨rfl, c0⟩ := vf_at h hv
    obtain ⟨h0, h1⟩ := hx
    have h2 : ¬ ((n : Int) ≤ (i : Int)) := by omega
    have h3 : ¬ ((i : Int) < 0) := by omega
    generalize pickV K (i : Int) = v at *
    clear h hl hv hi
    go_enter Tryd.func32, Tryd.ntmps32
    go_wp2
    go_ret
    exact ⟨rfl, rfl⟩
  · have e : pickV K x = nilR := by unfold pickV; rw [hl, if_neg hx]
    rw [e]
    show Calls Tryd.prog 32 #[.int .i64 x, .slice ao n c] w fun e w' => e = .returned (.slice none 0 0) ∧ w' = w
    clear h hl e
    by_cases h0 : x < 0
    · go_enter Tryd.func32, Tryd.ntmps32
      go_wp2
      go_ret
      exact ⟨rfl, rfl⟩
    · have h1 : (n : Int) ≤ x := by omega
      go_enter Tryd.func32, Tryd.ntmps32
      go_wp2
      go_ret
      exact ⟨rfl, rfl⟩
end Go.Proofs.YteiihgoobhlkbaaDoor
