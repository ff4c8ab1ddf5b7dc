/- A node's parameters, and a rectangle's edges among them: contracts. -/
import Derived.Test.YtamojciiacmjaaaDoorLawA
import Derived.Test.YtamojciiacmjaaaDoorRcWith
import Derived.Laws.IdiomCopy
namespace Go.Proofs.YtamojciiacmjaaaDoor
open Num Go.RowKit
set_option linter.unusedVariables false
set_option linter.unusedSimpArgs false

/-- what a copy answers -/
def appV (r : Result Value) : Value := match r with
  | .ok v _ => v
  | _ => .bool false
def cpW (P : Program) (ts : Array TypeId) (ty : TypeId) (w : World) (v x : Value) : World := appW ((Builtin.copy_ ts ty #[v, x]).run P w) w
def cpV (P : Program) (ts : Array TypeId) (ty : TypeId) (w : World) (v x : Value) : Value := appV ((Builtin.copy_ ts ty #[v, x]).run P w)
def CFine (P : Program) (ts : Array TypeId) (ty : TypeId) (w : World) (v x : Value) : Prop := ∃ u w', (Builtin.copy_ ts ty #[v, x]).run P w = .ok u w'
theorem run_cp (ρ : Operand → Value) (dst : Option Tmp) (s x : Operand) (ts : Array TypeId) (ty : TypeId) (pos : String) (after : Array Edge) (guard : Option (Nat × Bool)) (w : World) (h : CFine Tryd.prog ts ty w (ρ s) (ρ x)) :
    (execOp ρ { dst, op := .call { callee := .builtin .copy, args := #[s, x], argTypes := ts }, type := ty, pos, after, guard }).run Tryd.prog w =
      .ok (.value (cpV Tryd.prog ts ty w (ρ s) (ρ x))) (cpW Tryd.prog ts ty w (ρ s) (ρ x)) := by
  obtain ⟨u, w', e⟩ := h
  have e1 : execOp ρ { dst, op := .call { callee := .builtin .copy, args := #[s, x], argTypes := ts }, type := ty, pos, after, guard } = (do pure (.value (← Builtin.copy_ ts ty #[ρ s, ρ x]))) := by
    have e2 := BigFrame.execOp_builtin ρ dst .copy #[s, x] ts ty pos after guard
    rw [e2, BigFrame.builtin_copy]
    simp
  rw [e1]
  unfold cpV cpW
  rw [e]
  simp [e, appV, appW]
attribute [local go_sem ↓] run_cp

theorem cp_run {W : World} {k : Nat} {ap : Option Addr} {np cp bp ob : Nat} {p : List Int} (hz : ∀ j, j < 4 → W.cell? ⟨k, j, none⟩ = some (.int .i64 0)) (hf : ∀ j, W.frozen? ⟨k, j, none⟩ = false) (h : Vi W ap np cp bp ob p) (ty : TypeId) :
    ∃ u, (Builtin.copy_ #[22, 22] ty #[.slice (some ⟨k, 0, none⟩) 4 4, .slice ap np cp]).run Tryd.prog W = .ok u (W.setCells k 0 ((ints p).take 4)) := by
  have hl := vi_len h
  have hs : (Tryd.prog.info? 3).map (·.size) = some 1 := by kernel_rfl
  by_cases h0 : np = 0
  · subst h0
    have hp : p = [] := List.length_eq_zero_iff.1 hl
    subst hp
    exact ⟨_, run_copy_none (P := Tryd.prog) W 22 22 ty 3 (some ⟨k, 0, none⟩) ap 4 4 0 cp Tryd.underlying22 hs (by simp)⟩
  · obtain rfl := h.addr (by have := h.le; omega)
    refine ⟨_, run_copy_cells (P := Tryd.prog) W 22 22 ty 3 k 0 4 4 ⟨bp, ob, none⟩ np cp ((ints p).take 4) Tryd.underlying22 hs ?_ (fun j v hj => ?_) (fun j hj => ?_) (fun j hj => ?_) (fun v hv => one_ints p v (List.mem_of_mem_take hv))⟩
    · rw [List.length_take, ints_len, hl, Nat.mul_one]
      exact Nat.min_comm _ _
    · rw [Addr.add_lit]
      rw [List.getElem?_take] at hj
      split at hj
      · exact h.lies j v hj
      · cases hj
    · rw [Nat.zero_add, hz j (by rw [List.length_take] at hj; omega)]; rfl
    · rw [Nat.zero_add]; exact hf j
theorem cp_cells {W : World} {k : Nat} {p : List Int} (hz : ∀ j, j < 4 → W.cell? ⟨k, j, none⟩ = some (.int .i64 0)) :
    ∀ j, j < 4 → (W.setCells k 0 ((ints p).take 4)).cell? ⟨k, j, none⟩ = some (.int .i64 (nth p j)) := by
  intro j hj
  have hlen : ((ints p).take 4).length = min 4 p.length := by rw [List.length_take, ints_len, Nat.mul_one]
  by_cases hjl : j < p.length
  · have h1 := World.cell?_setCells_in k ((ints p).take 4) 0 W (fun i hi => by rw [Nat.zero_add, hz i (by omega)]; rfl) j (by omega)
    rw [Nat.zero_add] at h1
    rw [h1]
    congr 1
    rw [List.getElem_take]
    have h2 := ints_at (nth_get hjl)
    rw [List.getElem?_eq_getElem (by rw [ints_len]; omega)] at h2
    exact Option.some.inj h2
  · rw [World.cell?_setCells_out _ _ _ _ _ (fun _ _ => Or.inr (by dsimp only; omega)), hz j hj]
    have : nth p j = 0 := by unfold nth; rw [List.getD_eq_getElem?_getD, List.getElem?_eq_none (by omega)]; rfl
    rw [this]

/-- four cells of a block -/
structure Hq4 (w : World) (k : Nat) (q : Nat → Int) : Prop where
  c : ∀ j, j < 4 → w.cell? ⟨k, j, none⟩ = some (.int .i64 (q j))
  fz : ∀ j, w.frozen? ⟨k, j, none⟩ = false
theorem Hq4.below {W w : World} {k : Nat} {q : Nat → Int} (h : Hq4 W k q) (hb : Below W.heap.size W w) : Hq4 w k q := by
  have hk : k < W.heap.size := World.block_lt_of_cell? W ⟨k, 0, none⟩ (h.c 0 (by omega))
  exact ⟨fun j hj => cell_below hb (h.c j hj), fun j => by rw [hb.frozen (p := ⟨k, j, none⟩) hk]; exact h.fz j⟩
theorem hq4_new (w : World) (t : TypeId) : Hq4 (w.alloc (.cells #[.int .i64 0, .int .i64 0, .int .i64 0, .int .i64 0] t)) w.heap.size (fun _ => 0) := by
  refine ⟨fun j hj => ?_, fun j => World.frozen?_alloc_new w _ _ j⟩
  rw [World.cell?_alloc_new w _ _ j]
  have : j = 0 ∨ j = 1 ∨ j = 2 ∨ j = 3 := by omega
  rcases this with rfl | rfl | rfl | rfl <;> rfl
theorem hq4_q (w : World) (t : TypeId) (q : Nat → Int) : Hq4 (w.alloc (.cells #[.int .i64 (q 0), .int .i64 (q 1), .int .i64 (q 2), .int .i64 (q 3)] t)) w.heap.size q := by
  refine ⟨fun j hj => ?_, fun j => World.frozen?_alloc_new w _ _ j⟩
  rw [World.cell?_alloc_new w _ _ j]
  have : j = 0 ∨ j = 1 ∨ j = 2 ∨ j = 3 := by omega
  rcases this with rfl | rfl | rfl | rfl <;> rfl
theorem Hq4.drew {w : World} {k : Nat} {q : Nat → Int} (h : Hq4 w k q) : Hq4 w.drew k q := ⟨h.c, h.fz⟩
theorem hq4_else {w w' : World} {k g : Nat} {q : Nat → Int} (h : Hq4 w k q) (hb : But g w w') (hg : k ≠ g) : Hq4 w' k q := by
  have hk : k < w.heap.size := World.block_lt_of_cell? w ⟨k, 0, none⟩ (h.c 0 (by omega))
  have e := hb.block k hk hg
  exact ⟨fun j hj => (World.cell?_of_block (a := ⟨k, j, none⟩) e).trans (h.c j hj), fun j => (World.frozen?_of_block (a := ⟨k, j, none⟩) e).trans (h.fz j)⟩
/-- what the copy leaves -/
theorem cp_left {W : World} {k : Nat} {ap : Option Addr} {np cp bp ob : Nat} {p : List Int} (h8 : Hq4 W k (fun _ => 0)) (h : Vi W ap np cp bp ob p) :
    CFine Tryd.prog #[22, 22] 3 W (.slice (some ⟨k, 0, none⟩) 4 4) (.slice ap np cp) ∧ Hq4 (cpW Tryd.prog #[22, 22] 3 W (.slice (some ⟨k, 0, none⟩) 4 4) (.slice ap np cp)) k (fun j => nth p j) ∧ But k W (cpW Tryd.prog #[22, 22] 3 W (.slice (some ⟨k, 0, none⟩) 4 4) (.slice ap np cp)) := by
  obtain ⟨u, e⟩ := cp_run h8.c h8.fz h 3
  refine ⟨⟨u, _, e⟩, ?_, ?_⟩
  · unfold cpW
    rw [e]
    show Hq4 (W.setCells k 0 ((ints p).take 4)) k _
    exact ⟨cp_cells h8.c, fun j => by rw [World.frozen?_setCells]; exact h8.fz j⟩
  · unfold cpW
    rw [e]
    exact but_cells k 0 _ W
theorem low4 {B : Nat} {W w : World} {k : Nat} (h : Below B W w) (hk : B ≤ k) (u0 u1 u2 u3 : Value) : Below B W (((((w.setCell ⟨k, 0, none⟩ u0).setCell ⟨k, 1, none⟩ u1).setCell ⟨k, 2, none⟩ u2).setCell ⟨k, 3, none⟩ u3)) := h.trans (below_setCells hk [u0, u1, u2, u3] 0 w)

set_option maxRecDepth 100000 in
set_option maxHeartbeats 1000000 in
theorem param_any (op : Int) (ai : Option Addr) (ni ci : Nat) (ap : Option Addr) (np cp bp ob : Nat) (p : List Int) (w : World) (h : Vi w ap np cp bp ob p) :
    Calls Tryd.prog 48 #[.agg #[.int .i64 op, .slice ai ni ci, .slice ap np cp]] w fun e w' => e = .returned (.agg #[.int .i64 (nth p 0), .int .i64 (nth p 1), .int .i64 (nth p 2), .int .i64 (nth p 3)]) ∧ Below w.heap.size w w' := by
  obtain ⟨W, hW⟩ : ∃ W, W = (((w.alloc (.cells #[.int .i64 op, .slice ai ni ci, .slice ap np cp] 24)).alloc (.cells #[.int .i64 0, .int .i64 0, .int .i64 0, .int .i64 0] 73)).alloc (.cells #[.int .i64 0, .int .i64 0, .int .i64 0, .int .i64 0] 73)).drew := ⟨_, rfl⟩
  have hB : Below w.heap.size w W := by rw [hW]; exact ((((Below.refl _ _).alloc (Nat.le_refl _) _).alloc (by simp) _).alloc (by go_size) _).drew
  have h8 : Hq4 W (w.heap.size + 1 + 1) (fun _ => 0) := by
    have := (hq4_new ((w.alloc (.cells #[.int .i64 op, .slice ai ni ci, .slice ap np cp] 24)).alloc (.cells #[.int .i64 0, .int .i64 0, .int .i64 0, .int .i64 0] 73)) 73).drew
    rw [show ((w.alloc (.cells #[.int .i64 op, .slice ai ni ci, .slice ap np cp] 24)).alloc (.cells #[.int .i64 0, .int .i64 0, .int .i64 0, .int .i64 0] 73)).heap.size = w.heap.size + 1 + 1 by simp] at this
    rw [hW]
    exact this
  have h8' : Hq4 W (w.heap.size + 1) (fun _ => 0) := by
    have := (hq4_new (w.alloc (.cells #[.int .i64 op, .slice ai ni ci, .slice ap np cp] 24)) 73).below (((Below.refl _ _).alloc (Nat.le_refl _) (.cells #[.int .i64 0, .int .i64 0, .int .i64 0, .int .i64 0] 73)).drew)
    rw [show (w.alloc (.cells #[.int .i64 op, .slice ai ni ci, .slice ap np cp] 24)).heap.size = w.heap.size + 1 by simp] at this
    rw [hW]
    exact this
  obtain ⟨hF, h9, hb9⟩ := cp_left h8 (h.below hB)
  have h9' := hq4_else h8' hb9 (by omega)
  have HB := hid (hB.trans (hb9.low (B := w.heap.size) (by omega) hB.size))
  rw [hW] at hF h9 h9' HB
  clear hB h8 h8' hb9 hW
  clear W
  go_enter Tryd.func48, Tryd.ntmps48
  go_wp2
  go_region
  generalize cpW Tryd.prog #[22, 22] 3 (((w.alloc (.cells #[.int .i64 op, .slice ai ni ci, .slice ap np cp] 24)).alloc (.cells #[.int .i64 0, .int .i64 0, .int .i64 0, .int .i64 0] 73)).alloc (.cells #[.int .i64 0, .int .i64 0, .int .i64 0, .int .i64 0] 73)).drew (.slice (some ⟨w.heap.size + 1 + 1, 0, none⟩) 4 4) (.slice ap np cp) = W9 at *
  have c0 := h9.c 0 (by omega)
  have c1 := h9.c 1 (by omega)
  have c2 := h9.c 2 (by omega)
  have c3 := h9.c 3 (by omega)
  have d0 := h9'.c 0 (by omega)
  have d1 := h9'.c 1 (by omega)
  have d2 := h9'.c 2 (by omega)
  have d3 := h9'.c 3 (by omega)
  have df := h9'.fz
  clear h9 h9' hF
  go_wp2
  obtain ⟨s0, s1, s2, s3⟩ := Rg.Rc.set4 d0 d1 d2 d3 (.int .i64 (nth p 0)) (.int .i64 (nth p 1)) (.int .i64 (nth p 2)) (.int .i64 (nth p 3))
  refine bodyPost_ret (v := .agg #[.int .i64 (nth p 0), .int .i64 (nth p 1), .int .i64 (nth p 2), .int .i64 (nth p 3)]) (by simp [results, Tryd.results48, go_sem, s0, s1, s2, s3]) rfl ⟨rfl, ?_⟩
  exact low4 HB.out (Nat.le_succ _) _ _ _ _

set_option maxRecDepth 100000 in
set_option maxHeartbeats 1000000 in
theorem edges_any (a b c d : Int) (w : World) :
    Calls Tryd.prog 52 #[.agg #[.int .i64 a, .int .i64 b, .int .i64 c, .int .i64 d]] w fun e w' => e = .returned (.agg #[.int .i64 a, .int .i64 b, .int .i64 c, .int .i64 d]) ∧ Below w.heap.size w w' := by
  go_enter Tryd.func52, Tryd.ntmps52
  go_wp2
  refine bodyPost_ret (v := .agg #[.int .i64 a, .int .i64 b, .int .i64 c, .int .i64 d]) (by simp [results, Tryd.results52, go_sem]) rfl ⟨rfl, ?_⟩
  go_grown
end Go.Proofs.YtamojciiacmjaaaDoor
