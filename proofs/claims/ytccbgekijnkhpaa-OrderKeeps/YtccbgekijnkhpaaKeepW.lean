/- What is written into answered lists. -/
import Derived.Test.YtccbgekijnkhpaaSameG
namespace Go.Proofs.Ytccbgekijnkhpaa
open Num Go.RowKit
set_option linter.unusedVariables false
set_option linter.unusedSimpArgs false
/-- a list of lists of one's own, whatever they hold -/
structure Fw (B : Nat) (w : World) (n g : Nat) (V : List Lv) : Prop where
  z : Oz 1 B w (some ⟨g, 0, none⟩) n n g 0 (slL V)
  own : ∀ v, v ∈ V → ∃ l, Oi B w v.ao v.n v.c v.b v.off l
  ne : ∀ v, v ∈ V → 0 < v.c → v.b ≠ g
  apart : ∀ (i j : Nat) (u v : Lv), i ≠ j → V[i]? = some u → V[j]? = some v → 0 < u.c → 0 < v.c → u.b ≠ v.b
theorem Fs.fw {B : Nat} {w : World} {n g : Nat} {V : List Lv} (h : Fs B w (some ⟨g, 0, none⟩) n n g 0 V) : Fw B w n g V := ⟨h.z, fun v hv => ⟨_, h.v v hv⟩, h.ne, h.apart⟩
theorem fw_len {B : Nat} {w : World} {n g : Nat} {V : List Lv} (h : Fw B w n g V) : V.length = n := by have := h.z.v.len; rw [slL_len] at this; omega
theorem fw_at {B : Nat} {w : World} {n g : Nat} {V : List Lv} (h : Fw B w n g V) {i : Nat} {v : Lv} (hi : V[i]? = some v) : w.cell? ⟨g, i, none⟩ = some (.slice v.ao v.n v.c) := by
  have := h.z.v.lies _ _ (slL_at hi)
  rw [Nat.zero_add] at this
  exact this
theorem oi_cell {B : Nat} {w : World} {ao : Option Addr} {n c b off : Nat} {l : List Int} (h : Oi B w ao n c b off l) {k : Nat} (hk : k < n) : ao = some ⟨b, off, none⟩ ∧ (∃ u, w.cell? ⟨b, off + k, none⟩ = some (.int .i64 u)) ∧ w.frozen? ⟨b, off + k, none⟩ = false ∧ B ≤ b := by
  obtain ⟨m, hm⟩ : ∃ m, l[k]? = some m := ⟨_, List.getElem?_eq_getElem (by rw [vi_len h.v]; exact hk)⟩
  obtain ⟨h1, h2⟩ := vi_at h.v hm
  exact ⟨h1, ⟨m, h2⟩, oz_fz h (by omega), (h.new (by have := h.v.le; omega)).1⟩
theorem Fw.put {B : Nat} {w : World} {n g : Nat} {V : List Lv} (h : Fw B w n g V) {i : Nat} {v : Lv} (hi : V[i]? = some v) {k : Nat} (hk : k < v.n) (m : Int) : Fw B (w.setCell ⟨v.b, v.off + k, none⟩ (.int .i64 m)) n g V := by
  have hc : 0 < v.c := by
    obtain ⟨l, hl⟩ := h.own v (List.mem_of_getElem? hi)
    have := hl.v.le
    omega
  refine ⟨oz_far h.z (fun _ => Ne.symm (h.ne v (List.mem_of_getElem? hi) hc)) _ _, fun u hu => ?_, h.ne, h.apart⟩
  obtain ⟨j, hj⟩ := List.getElem?_of_mem hu
  obtain ⟨l, hl⟩ := h.own u hu
  by_cases hij : j = i
  · subst hij
    rw [hi] at hj
    obtain rfl := Option.some.inj hj
    exact ⟨_, oi_set hl hk m⟩
  · exact ⟨l, oz_far hl (fun hc' => h.apart j i u v hij hj hi hc' hc) _ _⟩
section
variable {w1 : World} {b1 o1 : Nat} {v1 : Value} {b2 o2 : Nat} {v2 : Value} {b3 o3 : Nat} {v3 : Value} {b4 o4 : Nat} {v4 : Value} {w' : World} {ao : Option Addr} {n c b off : Nat} {L : List Nv} {out : Int}
theorem all_4 (h : Vn w1 ao n c b off L) (hf : Few n L) (hs : S4 w1 b1 o1 v1 b2 o2 v2 b3 o3 v3 b4 o4 v4 w') : Calls Try.prog 11 #[.agg #[.slice ao n c, .int .i64 out]] w' fun e w2 => RetI w'.heap.size w2 e (castL (ordG (insL L))) ∧ Below w'.heap.size w' w2 := all_any ao n c b off L out w' (h.below hs.2) hf
theorem refAll_4 (h : Vn w1 ao n c b off L) (hf : Few n L) (hs : S4 w1 b1 o1 v1 b2 o2 v2 b3 o3 v3 b4 o4 v4 w') : Calls Try.prog 12 #[.agg #[.slice ao n c, .int .i64 out]] w' fun e w2 => RetI w'.heap.size w2 e (castL (ordG (insL L))) ∧ Below w'.heap.size w' w2 := refAll_any ao n c b off L out w' (h.below hs.2) hf
theorem same_4 {ao' : Option Addr} {c' b' off' : Nat} {M : List Nv} (h : Vn w1 ao n c b off L) (h' : Vn w1 ao' n c' b' off' M) (hk : M.map keyV = L.map keyV) (hs : S4 w1 b1 o1 v1 b2 o2 v2 b3 o3 v3 b4 o4 v4 w') :
    Calls Try.prog 20 #[.agg #[.slice ao n c, .int .i64 out], .agg #[.slice ao' n c', .int .i64 out]] w' fun e w2 => e = .returned (.bool true) ∧ Below w'.heap.size w' w2 := same_yes ao n c b off L ao' c' b' off' M out w' (h.below hs.2) (h'.below hs.2) hk
end
end Go.Proofs.Ytccbgekijnkhpaa
