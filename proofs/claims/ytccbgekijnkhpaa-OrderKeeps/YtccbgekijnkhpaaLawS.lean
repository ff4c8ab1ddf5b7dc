/- What the laws need besides: a filter in its block that stands while calls are made. -/
import Derived.Test.YtccbgekijnkhpaaAwake
import Derived.Test.YtccbgekijnkhpaaRefRound
import Derived.Deep.RegionHeld3
namespace Go.Proofs.Ytccbgekijnkhpaa
open Num Go.RowKit
set_option linter.unusedVariables false
set_option linter.unusedSimpArgs false

/-- the filter's two cells stand, and nothing that was there is written -/
abbrev Sg (w : World) (ao : Option Addr) (n c : Nat) (out : Int) (w' : World) : Prop := (w'.cell? ⟨w.heap.size, 0, none⟩ = some (.slice ao n c) ∧ w'.cell? ⟨w.heap.size, 1, none⟩ = some (.int .i64 out)) ∧ Below w.heap.size w w'
section
variable {w : World} {ao : Option Addr} {n c : Nat} {out : Int} {w' : World}
theorem sg_drew (h : Sg w ao n c out w') : Sg w ao n c out w'.drew := ⟨h.1, h.2.drew⟩
theorem sg_below {w2 : World} (h : Sg w ao n c out w') (hb : Below w'.heap.size w' w2) : Sg w ao n c out w2 := ⟨⟨cell_below hb h.1.1, cell_below hb h.1.2⟩, via (w := w) h.2 hb⟩
theorem sg_new (w : World) (ao : Option Addr) (n c : Nat) (out : Int) (t : TypeId) : Sg w ao n c out (w.alloc (.cells #[.slice ao n c, .int .i64 out] t)) := ⟨⟨World.cell?_alloc_new w _ _ 0, World.cell?_alloc_new w _ _ 1⟩, (Below.refl _ _).alloc (Nat.le_refl _) _⟩
variable {b off : Nat} {L : List Nv}
theorem all_s (h : Vn w ao n c b off L) (hf : Few n L) (hs : Sg w ao n c out w') : Calls Try.prog 11 #[.agg #[.slice ao n c, .int .i64 out]] w' fun e w2 => RetI w'.heap.size w2 e (castL (ordG (insL L))) ∧ Below w'.heap.size w' w2 := all_any ao n c b off L out w' (h.below hs.2) hf
theorem refAll_s (h : Vn w ao n c b off L) (hf : Few n L) (hs : Sg w ao n c out w') : Calls Try.prog 12 #[.agg #[.slice ao n c, .int .i64 out]] w' fun e w2 => RetI w'.heap.size w2 e (castL (ordG (insL L))) ∧ Below w'.heap.size w' w2 := refAll_any ao n c b off L out w' (h.below hs.2) hf
theorem round_s (h : Vn w ao n c b off L) (hf : Few n L) (hs : Sg w ao n c out w') : Calls Try.prog 13 #[.agg #[.slice ao n c, .int .i64 out]] w' fun e w2 => e = .returned (.bool (roundB (insL L))) ∧ Below w'.heap.size w' w2 := round_any ao n c b off L out w' (h.below hs.2) hf
theorem refRound_s (h : Vn w ao n c b off L) (hf : Few n L) (hs : Sg w ao n c out w') : Calls Try.prog 14 #[.agg #[.slice ao n c, .int .i64 out]] w' fun e w2 => e = .returned (.bool (roundB (insL L))) ∧ Below w'.heap.size w' w2 := refRound_any ao n c b off L out w' (h.below hs.2) hf
theorem dec_self (l : List Int) : decide (l = l) = true := decide_eq_true rfl
end
/-- four cells stand -/
abbrev S4 (w1 : World) (b1 o1 : Nat) (v1 : Value) (b2 o2 : Nat) (v2 : Value) (b3 o3 : Nat) (v3 : Value) (b4 o4 : Nat) (v4 : Value) (w' : World) : Prop := (w'.cell? ⟨b1, o1, none⟩ = some v1 ∧ w'.cell? ⟨b2, o2, none⟩ = some v2 ∧ w'.cell? ⟨b3, o3, none⟩ = some v3 ∧ w'.cell? ⟨b4, o4, none⟩ = some v4) ∧ Below w1.heap.size w1 w'
section
variable {w1 : World} {b1 o1 : Nat} {v1 : Value} {b2 o2 : Nat} {v2 : Value} {b3 o3 : Nat} {v3 : Value} {b4 o4 : Nat} {v4 : Value} {w' : World}
theorem s4_drew (h : S4 w1 b1 o1 v1 b2 o2 v2 b3 o3 v3 b4 o4 v4 w') : S4 w1 b1 o1 v1 b2 o2 v2 b3 o3 v3 b4 o4 v4 w'.drew := ⟨h.1, h.2.drew⟩
theorem s4_below {w2 : World} (h : S4 w1 b1 o1 v1 b2 o2 v2 b3 o3 v3 b4 o4 v4 w') (hb : Below w'.heap.size w' w2) : S4 w1 b1 o1 v1 b2 o2 v2 b3 o3 v3 b4 o4 v4 w2 :=
  ⟨⟨cell_below hb h.1.1, cell_below hb h.1.2.1, cell_below hb h.1.2.2.1, cell_below hb h.1.2.2.2⟩, via (w := w1) h.2 hb⟩
theorem equal_s {ao : Option Addr} {n c b off : Nat} {l : List Int} {ao' : Option Addr} {n' c' b' off' : Nat} {l' : List Int} (h : Vi w1 ao n c b off l) (h' : Vi w1 ao' n' c' b' off' l') (e : l = l') (hs : S4 w1 b1 o1 v1 b2 o2 v2 b3 o3 v3 b4 o4 v4 w') :
    Calls Try.prog 10 #[.slice ao n c, .slice ao' n' c'] w' fun e w2 => e = .returned (.bool true) ∧ Below w'.heap.size w' w2 := by
  refine (equal_any ao n c b off l ao' n' c' b' off' l' w' (h.below hs.2) (h'.below hs.2)).mono ?_
  rintro e w2 ⟨rfl, hb⟩
  subst e
  exact ⟨by rw [dec_self], hb⟩
end
theorem ot_n {G : List (List Int)} {out : Int} {N : List Bool} {n m B : Nat} {w : World} {ao : Option Addr} {c b off : Nat} (hG : G.length = n) (hN : Nd G out N) (h : Ot B w ao m c b off N) : n = m := by
  have h1 := vt_len h.v
  have h2 := hN.len
  omega
theorem fs_n {G : List (List Int)} {V : List Lv} {n m B : Nat} {w : World} {ao : Option Addr} {c g off : Nat} (hG : G.length = n) (hU : V.map Lv.l = (usesL G).map castL) (h : Fs B w ao m c g off V) : n = m := by
  have h1 := fs_len h
  have h2 := congrArg List.length hU
  rw [List.length_map, List.length_map, usesL_len] at h2
  omega
theorem lt_len {N : List Bool} {x n i : Nat} (h1 : N.length = x) (h2 : x = n) (hi : i < n) : i < N.length := by omega
theorem nd_out {G : List (List Int)} {N : List Bool} {z n : Nat} (h : Nd G (z : Int) N) (hG : G.length = n) (hz : z < n) : bt N z = true := (h.iff z (by omega)).2 (Rch.out z rfl (by omega))
theorem few_l {n : Nat} {L : List Nv} (h : L.length = n) : (insL L).length = n := by rw [insL_len, h]
end Go.Proofs.Ytccbgekijnkhpaa
