/- A filter in its block that stands while calls are made. -/
import Derived.Test.YtleclkjinkbebaaDoorAwake
import Derived.Test.YtleclkjinkbebaaDoorChkNum
import Derived.Deep.RegionHeld3
namespace Go.Proofs.YtleclkjinkbebaaDoor
open Num Go.RowKit
set_option linter.unusedVariables false
set_option linter.unusedSimpArgs false

/-- the filter's two cells stand, and nothing that was there is written -/
abbrev Sg (w : World) (ao : Option Addr) (n c : Nat) (out : Int) (w' : World) : Prop := (w'.cell? ⟨w.heap.size, 0, none⟩ = some (.slice ao n c) ∧ w'.cell? ⟨w.heap.size, 1, none⟩ = some (.int .i64 out)) ∧ Below w.heap.size w w'
section
variable {w : World} {ao : Option Addr} {n c : Nat} {out : Int} {w' : World}
theorem sg_drew (h : Sg w ao n c out w') : Sg w ao n c out w'.drew := ⟨h.1, h.2.drew⟩
theorem sg_below {w2 : World} (h : Sg w ao n c out w') (hb : Below w'.heap.size w' w2) : Sg w ao n c out w2 := ⟨⟨cell_below hb h.1.1, cell_below hb h.1.2⟩, via (w := w) h.2 hb⟩
theorem sg_new (w : World) (ao : Option Addr) (n c : Nat) (out : Int) (t : TypeId) : Sg w ao n c out (w.alloc (.cells #[.slice ao n c, .int .i64 out] t)) := ⟨⟨World.cell?_alloc_new w _ _ 0, World.cell?_alloc_new w _ _ 1⟩, (Below.refl _ _).alloc (Nat.le_refl _) _⟩
variable {b off : Nat} {L : List Nv}
theorem check_s (h : Vn w ao n c b off L) (hf : Few n L) {x : Int} (hx : checkI L out = x) (hs : Sg w ao n c out w') : Calls Tryd.prog 12 #[.agg #[.slice ao n c, .int .i64 out]] w' fun e w2 => e = .returned (.int .i64 x) ∧ Below w'.heap.size w' w2 := by
  subst hx; exact check_any ao n c b off L out w' (h.below hs.2) hf
end
theorem dec_self (l : List Int) : decide (l = l) = true := decide_eq_true rfl
theorem alloc_low {w w1 : World} (h : Below w.heap.size w w1) (o : Obj) : Below w.heap.size w (w1.alloc o) := h.alloc h.size o
theorem few_l {n : Nat} {L : List Nv} (h : L.length = n) : (insL L).length = n := by rw [insL_len, h]
end Go.Proofs.YtleclkjinkbebaaDoor
