/- The fixed answers (awake): the contract. -/
import Derived.Test.YtamojciiacmjaaaDoorNdLaw
import Derived.Deep.RegionHeld3
namespace Go.Proofs.YtamojciiacmjaaaDoor
open Num Go.RowKit
open Rg.Num (R empB orN nil moveR grow meet join mvd mx mn cutR Ok Pr boxQ hasB)
set_option linter.unusedVariables false
set_option linter.unusedSimpArgs false

/-- what a node does, whatever the places of its lists -/
def coreV (v : Nv) : Int × List Int × List Int := (v.op, v.l, v.p)
theorem core_at {L M : List Nv} (h : L.map coreV = M.map coreV) (a : Nat) : (L[a]? = none ∧ M[a]? = none) ∨ ∃ u v, L[a]? = some u ∧ M[a]? = some v ∧ u.op = v.op ∧ u.l = v.l ∧ u.p = v.p := by
  have h1 : (L.map coreV)[a]? = (M.map coreV)[a]? := by rw [h]
  rw [List.getElem?_map, List.getElem?_map] at h1
  cases hL : L[a]? with
  | none => cases hM : M[a]? with
    | none => exact Or.inl ⟨rfl, rfl⟩
    | some v => rw [hL, hM] at h1; cases h1
  | some u => cases hM : M[a]? with
    | none => rw [hL, hM] at h1; cases h1
    | some v =>
      rw [hL, hM] at h1
      have e : coreV u = coreV v := Option.some.inj h1
      unfold coreV at e
      simp only [Prod.mk.injEq] at e
      exact Or.inr ⟨u, v, rfl, rfl, e.1, e.2.1, e.2.2⟩
theorem core_ins {L M : List Nv} (h : L.map coreV = M.map coreV) : insL L = insL M := by
  have e : ∀ K : List Nv, insL K = (K.map coreV).map fun x => x.2.1 := fun K => by unfold insL; rw [List.map_map]; rfl
  rw [e, e, h]
theorem core_len {L M : List Nv} (h : L.map coreV = M.map coreV) : L.length = M.length := by
  have := congrArg List.length h
  simpa using this
/-- the two nodes -/
def awL (h : Nat) : List Nv := [⟨1, some ⟨h, 0, none⟩, 1, 1, h, 0, [-1], some ⟨h + 1, 0, none⟩, 2, 2, h + 1, 0, [5, 0]⟩, ⟨2, some ⟨h + 1 + 1, 0, none⟩, 1, 1, h + 1 + 1, 0, [0], some ⟨h + 1 + 1 + 1, 0, none⟩, 2, 2, h + 1 + 1 + 1, 0, [1, 2]⟩]
theorem aw_core (h : Nat) : (awL h).map coreV = (awL 0).map coreV := rfl
theorem aw_few (h : Nat) : Few 2 (awL h) := ⟨by decide, fun v hv => by
  unfold awL at hv
  simp only [List.mem_cons, List.not_mem_nil, or_false] at hv
  rcases hv with rfl | rfl <;> (show 1 ≤ 1000; decide)⟩
/-- the world that the two nodes are laid in -/
theorem aw_vn (w W : World) (hW : W = (((((w.alloc (.cells #[.int .i64 (-1)] 3)).alloc (.cells #[.int .i64 5, .int .i64 0] 3)).alloc (.cells #[.int .i64 0] 3)).alloc (.cells #[.int .i64 1, .int .i64 2] 3)).alloc (.cells #[.int .i64 1, .slice (some ⟨w.heap.size, 0, none⟩) 1 1, .slice (some ⟨w.heap.size + 1, 0, none⟩) 2 2, .int .i64 2, .slice (some ⟨w.heap.size + 1 + 1, 0, none⟩) 1 1, .slice (some ⟨w.heap.size + 1 + 1 + 1, 0, none⟩) 2 2] 24)).alloc (.cells #[.slice (some ⟨w.heap.size + 1 + 1 + 1 + 1, 0, none⟩) 2 2, .int .i64 1] 36)) :
    Vn W (some ⟨w.heap.size + 1 + 1 + 1 + 1, 0, none⟩) 2 2 (w.heap.size + 1 + 1 + 1 + 1) 0 (awL w.heap.size) ∧ Below w.heap.size w W ∧ (W.cell? ⟨w.heap.size + 1 + 1 + 1 + 1 + 1, 0, none⟩ = some (.slice (some ⟨w.heap.size + 1 + 1 + 1 + 1, 0, none⟩) 2 2) ∧ W.cell? ⟨w.heap.size + 1 + 1 + 1 + 1 + 1, 1, none⟩ = some (.int .i64 1)) := by
  subst hW
  have l0 := lit_new w (-1)
  have b0 := al (W := w) (.cells #[.int .i64 (-1)] 3)
  have z0 : (w.alloc (.cells #[.int .i64 (-1)] 3)).heap.size = w.heap.size + 1 := by simp
  generalize (w.alloc (.cells #[.int .i64 (-1)] 3)) = W0 at *
  have l1 := (oi_news (w := W0) (lo := 0) (Nat.zero_le _) [5, 0] (by simp) 3).v
  have b1 := al (W := W0) (.cells #[.int .i64 5, .int .i64 0] 3)
  have z1 : (W0.alloc (.cells #[.int .i64 5, .int .i64 0] 3)).heap.size = w.heap.size + 1 + 1 := by simp [z0]
  rw [z0] at l1
  have l1' : Vi (W0.alloc (.cells #[.int .i64 5, .int .i64 0] 3)) (some ⟨w.heap.size + 1, 0, none⟩) 2 2 (w.heap.size + 1) 0 [5, 0] := l1
  clear l1
  generalize (W0.alloc (.cells #[.int .i64 5, .int .i64 0] 3)) = W1 at *
  have l2 := lit_new W1 0
  rw [z1] at l2
  have b2 := al (W := W1) (.cells #[.int .i64 0] 3)
  have z2 : (W1.alloc (.cells #[.int .i64 0] 3)).heap.size = w.heap.size + 1 + 1 + 1 := by simp [z1]
  generalize (W1.alloc (.cells #[.int .i64 0] 3)) = W2 at *
  have l3 := (oi_news (w := W2) (lo := 0) (Nat.zero_le _) [1, 2] (by simp) 3).v
  have b3 := al (W := W2) (.cells #[.int .i64 1, .int .i64 2] 3)
  have z3 : (W2.alloc (.cells #[.int .i64 1, .int .i64 2] 3)).heap.size = w.heap.size + 1 + 1 + 1 + 1 := by simp [z2]
  rw [z2] at l3
  have l3' : Vi (W2.alloc (.cells #[.int .i64 1, .int .i64 2] 3)) (some ⟨w.heap.size + 1 + 1 + 1, 0, none⟩) 2 2 (w.heap.size + 1 + 1 + 1) 0 [1, 2] := l3
  clear l3
  generalize (W2.alloc (.cells #[.int .i64 1, .int .i64 2] 3)) = W3 at *
  have hn := (oz_news (sz := 3) (lo := 0) (w := W3) (Nat.zero_le _) (flatN (awL w.heap.size)) 2 rfl (by decide) 24).v
  rw [z3] at hn
  have b4 := al (W := W3) (.cells #[.int .i64 1, .slice (some ⟨w.heap.size, 0, none⟩) 1 1, .slice (some ⟨w.heap.size + 1, 0, none⟩) 2 2, .int .i64 2, .slice (some ⟨w.heap.size + 1 + 1, 0, none⟩) 1 1, .slice (some ⟨w.heap.size + 1 + 1 + 1, 0, none⟩) 2 2] 24)
  have z4 : (W3.alloc (.cells #[.int .i64 1, .slice (some ⟨w.heap.size, 0, none⟩) 1 1, .slice (some ⟨w.heap.size + 1, 0, none⟩) 2 2, .int .i64 2, .slice (some ⟨w.heap.size + 1 + 1, 0, none⟩) 1 1, .slice (some ⟨w.heap.size + 1 + 1 + 1, 0, none⟩) 2 2] 24)).heap.size = w.heap.size + 1 + 1 + 1 + 1 + 1 := by simp [z3]
  have hn' : Vz 3 (W3.alloc (.cells #[.int .i64 1, .slice (some ⟨w.heap.size, 0, none⟩) 1 1, .slice (some ⟨w.heap.size + 1, 0, none⟩) 2 2, .int .i64 2, .slice (some ⟨w.heap.size + 1 + 1, 0, none⟩) 1 1, .slice (some ⟨w.heap.size + 1 + 1 + 1, 0, none⟩) 2 2] 24)) (some ⟨w.heap.size + 1 + 1 + 1 + 1, 0, none⟩) 2 2 (w.heap.size + 1 + 1 + 1 + 1) 0 (flatN (awL w.heap.size)) := hn
  clear hn
  generalize (W3.alloc (.cells #[.int .i64 1, .slice (some ⟨w.heap.size, 0, none⟩) 1 1, .slice (some ⟨w.heap.size + 1, 0, none⟩) 2 2, .int .i64 2, .slice (some ⟨w.heap.size + 1 + 1, 0, none⟩) 1 1, .slice (some ⟨w.heap.size + 1 + 1 + 1, 0, none⟩) 2 2] 24)) = W4 at *
  have hg := sg_new W4 (some ⟨w.heap.size + 1 + 1 + 1 + 1, 0, none⟩) 2 2 1 36
  have b5 := hg.2
  obtain ⟨q0, q1⟩ := hg.1
  rw [z4] at q0 q1
  refine ⟨⟨hn'.below b5, fun v hv => ?_, fun v hv => ?_⟩, via (via (via (via (via b0 b1) b2) b3) b4) b5, q0, q1⟩
  · unfold awL at hv
    simp only [List.mem_cons, List.not_mem_nil, or_false] at hv
    rcases hv with rfl | rfl
    · exact ((((l0.below b1).below b2).below b3).below b4).below b5
    · exact ((l2.below b3).below b4).below b5
  · unfold awL at hv
    simp only [List.mem_cons, List.not_mem_nil, or_false] at hv
    rcases hv with rfl | rfl
    · exact (((l1'.below b2).below b3).below b4).below b5
    · exact (l3'.below b4).below b5

theorem step_core {L M : List Nv} (h : L.map coreV = M.map coreV) : stepP L = stepP M := by
  funext st a
  unfold stepP
  rcases core_at h a with ⟨h1, h2⟩ | ⟨u, v, h1, h2, e1, e2, e3⟩
  · rw [h1, h2]
  · rw [h1, h2]
    dsimp only
    unfold needV
    rw [e1, e2, e3]
theorem run_core {L M : List Nv} (h : L.map coreV = M.map coreV) (out : Int) (want : R) : runN L out want = runN M out want := by
  unfold runN
  rw [step_core h, core_ins h, core_len h]
theorem aw_run (h : Nat) : runN (awL h) 1 ⟨0, 0, 1, 1⟩ = ([⟨-1, -2, 2, 3⟩, ⟨0, 0, 1, 1⟩], ⟨-6, -2, -3, 3⟩) := (run_core (aw_core h) 1 _).trans (by decide +kernel)
theorem aw_rf (h : Nat) : Rf 2 (awL h) 1 := rf_of rfl (show rightG (awL h) 1 = true from rfl)

/-- the filter's box and all that was there when it was laid -/
abbrev Sa (W : World) (k g : Nat) (w' : World) : Prop := (w'.cell? ⟨k, 0, none⟩ = some (.slice (some ⟨g, 0, none⟩) 2 2) ∧ w'.cell? ⟨k, 1, none⟩ = some (.int .i64 1)) ∧ Below W.heap.size W w'
section
variable {W : World} {k g : Nat} {w' : World}
theorem sa_drew (h : Sa W k g w') : Sa W k g w'.drew := ⟨h.1, h.2.drew⟩
theorem sa_below {w2 : World} (h : Sa W k g w') (hb : Below w'.heap.size w' w2) : Sa W k g w2 := ⟨⟨cell_below hb h.1.1, cell_below hb h.1.2⟩, via h.2 hb⟩
theorem sa_alloc {o : Obj} (h : Sa W k g w') : Sa W k g (w'.alloc o) := sa_below h (al o)
end
theorem sa_set4 {W w' : World} {k g sb : Nat} {u0 u1 u2 u3 : Value} (h : Sa W k g w') (hk : k < W.heap.size) (hs : W.heap.size ≤ sb) : Sa W k g ((((w'.setCell ⟨sb, 0, none⟩ u0).setCell ⟨sb, 1, none⟩ u1).setCell ⟨sb, 2, none⟩ u2).setCell ⟨sb, 3, none⟩ u3) := by
  have hb := but_set4 w' sb 0 1 2 3 u0 u1 u2 u3
  have hw := World.block_lt_of_cell? _ _ h.1.1
  have e : ∀ j, _ := fun j => World.cell?_of_block (a := ⟨k, j, none⟩) (hb.block k hw (by omega))
  exact ⟨⟨(e 0).trans h.1.1, (e 1).trans h.1.2⟩, low4 h.2 hs _ _ _ _⟩
theorem aw_c1 {W W' : World} {g h : Nat} (hB : Below W.heap.size W W') (hV : Vn W (some ⟨g, 0, none⟩) 2 2 g 0 (awL h)) :
    Calls Tryd.prog 15 #[.agg #[.slice (some ⟨g, 0, none⟩) 2 2, .int .i64 1], .agg #[.int .i64 0, .int .i64 0, .int .i64 1, .int .i64 1]] W' fun e w' => ∃ kb : Nat, e = .returned (.tuple #[.slice (some ⟨kb, 0, none⟩) 2 2, .agg #[.int .i64 (-6), .int .i64 (-2), .int .i64 (-3), .int .i64 3]]) ∧ Hid (Rg.Ow W'.heap.size w' (some ⟨kb, 0, none⟩) 2 2 kb 0 [⟨-1, -2, 2, 3⟩, ⟨0, 0, 1, 1⟩]) ∧ Below W'.heap.size W' w' := by
  have := all_c (hV.below hB) (aw_rf h) (p := 0) (q := 0) (r := 1) (s := 1) (by unfold Ok; decide)
  rw [aw_run h] at this
  exact this
/-- eight cells and four, and all that was there -/
abbrev Sb (W : World) (kb sb : Nat) (w' : World) : Prop := (w'.cell? ⟨kb, 0, none⟩ = some (.int .i64 (-1)) ∧ w'.cell? ⟨kb, 1, none⟩ = some (.int .i64 (-2)) ∧ w'.cell? ⟨kb, 2, none⟩ = some (.int .i64 2) ∧ w'.cell? ⟨kb, 3, none⟩ = some (.int .i64 3) ∧ w'.cell? ⟨kb, 4, none⟩ = some (.int .i64 0) ∧ w'.cell? ⟨kb, 5, none⟩ = some (.int .i64 0) ∧ w'.cell? ⟨kb, 6, none⟩ = some (.int .i64 1) ∧ w'.cell? ⟨kb, 7, none⟩ = some (.int .i64 1) ∧ w'.cell? ⟨sb, 0, none⟩ = some (.int .i64 (-6)) ∧ w'.cell? ⟨sb, 1, none⟩ = some (.int .i64 (-2)) ∧ w'.cell? ⟨sb, 2, none⟩ = some (.int .i64 (-3)) ∧ w'.cell? ⟨sb, 3, none⟩ = some (.int .i64 3)) ∧ Below W.heap.size W w'
theorem sb_below {W w1 w2 : World} {kb sb : Nat} (h : Sb W kb sb w1) (hb : Below w1.heap.size w1 w2) : Sb W kb sb w2 := by
  obtain ⟨⟨h0, h1, h2, h3, h4, h5, h6, h7, h8, h9, ha, hc⟩, hB⟩ := h
  exact ⟨⟨cell_below hb h0, cell_below hb h1, cell_below hb h2, cell_below hb h3, cell_below hb h4, cell_below hb h5, cell_below hb h6, cell_below hb h7, cell_below hb h8, cell_below hb h9, cell_below hb ha, cell_below hb hc⟩, via hB hb⟩
theorem sb_drew {W w1 : World} {kb sb : Nat} (h : Sb W kb sb w1) : Sb W kb sb w1.drew := sb_below h (Below.refl _ _).drew
theorem ow_eight {B : Nat} {w : World} {kb : Nat} {r s : R} (h : Rg.Ow B w (some ⟨kb, 0, none⟩) 2 2 kb 0 [r, s]) : (w.cell? ⟨kb, 0, none⟩ = some (.int .i64 r.x0) ∧ w.cell? ⟨kb, 1, none⟩ = some (.int .i64 r.y0) ∧ w.cell? ⟨kb, 2, none⟩ = some (.int .i64 r.x1) ∧ w.cell? ⟨kb, 3, none⟩ = some (.int .i64 r.y1)) ∧ w.cell? ⟨kb, 4, none⟩ = some (.int .i64 s.x0) ∧ w.cell? ⟨kb, 5, none⟩ = some (.int .i64 s.y0) ∧ w.cell? ⟨kb, 6, none⟩ = some (.int .i64 s.x1) ∧ w.cell? ⟨kb, 7, none⟩ = some (.int .i64 s.y1) := by
  obtain ⟨-, a0, a1, a2, a3⟩ := Rg.vw_at h.v (show [r, s][0]? = some r from rfl)
  obtain ⟨-, b0, b1, b2, b3⟩ := Rg.vw_at h.v (show [r, s][1]? = some s from rfl)
  exact ⟨⟨a0, a1, a2, a3⟩, b0, b1, b2, b3⟩
theorem pack {W X : World} {kb sb : Nat} (h : Sb W kb sb X) : ∃ sb' W2, sb' = sb ∧ W2 = X ∧ Sb W kb sb' W2 := ⟨sb, X, rfl, rfl, h⟩
theorem aw_new (W w : World) {w2 : World} (hW : W.heap.size ≤ w.heap.size) (hb : Below (w.alloc (.cells #[.int .i64 0, .int .i64 0, .int .i64 0, .int .i64 0] 26)).heap.size (w.alloc (.cells #[.int .i64 0, .int .i64 0, .int .i64 0, .int .i64 0] 26)) w2) : Rg.Rc.Has4 w2 w.heap.size (.int .i64 0) (.int .i64 0) (.int .i64 0) (.int .i64 0) := (Rg.Rc.Has4.new (W := w) (k := w.heap.size) rfl _ _ _ _ _).below hb
theorem aw_s2 {B kb sb : Nat} {W wd : World} (hO : Rg.Ow B wd (some ⟨kb, 0, none⟩) 2 2 kb 0 [⟨-1, -2, 2, 3⟩, ⟨0, 0, 1, 1⟩]) (hB : Below W.heap.size W wd) (hZ : Rg.Rc.Has4 wd sb (.int .i64 0) (.int .i64 0) (.int .i64 0) (.int .i64 0)) (hs : sb < B) (hW : W.heap.size ≤ sb) : Sb W kb sb ((((wd.setCell ⟨sb, 0, none⟩ (.int .i64 (-6))).setCell ⟨sb, 1, none⟩ (.int .i64 (-2))).setCell ⟨sb, 2, none⟩ (.int .i64 (-3))).setCell ⟨sb, 3, none⟩ (.int .i64 3)) := by
  have hO8 := ow_eight hO
  have hkb : B ≤ kb := (hO.new (by omega)).1
  have hkb2 : kb < wd.heap.size := World.block_lt_of_cell? _ _ hO8.1.1
  have hb4 := but_set4 wd sb 0 1 2 3 (.int .i64 (-6)) (.int .i64 (-2)) (.int .i64 (-3)) (.int .i64 3)
  obtain ⟨e0, e1, e2, e3⟩ := Rg.Rc.set4 hZ.c0 hZ.c1 hZ.c2 hZ.c3 (.int .i64 (-6)) (.int .i64 (-2)) (.int .i64 (-3)) (.int .i64 3)
  have ek : ∀ j, _ := fun j => World.cell?_of_block (a := ⟨kb, j, none⟩) (hb4.block kb hkb2 (by omega))
  exact ⟨⟨(ek 0).trans hO8.1.1, (ek 1).trans hO8.1.2.1, (ek 2).trans hO8.1.2.2.1, (ek 3).trans hO8.1.2.2.2, (ek 4).trans hO8.2.1, (ek 5).trans hO8.2.2.1, (ek 6).trans hO8.2.2.2.1, (ek 7).trans hO8.2.2.2.2, e0, e1, e2, e3⟩, low4 hB hW _ _ _ _⟩
theorem aw_s3 {B kb : Nat} {W wd : World} (hO : Rg.Ow B wd (some ⟨kb, 0, none⟩) 2 2 kb 0 [⟨-1, -2, 2, 3⟩, ⟨0, 0, 1, 1⟩]) (hB : Below W.heap.size W wd) : Sb W kb wd.heap.size (wd.alloc (.cells #[.int .i64 (-6), .int .i64 (-2), .int .i64 (-3), .int .i64 3] 26)) := by
  have hO8 := ow_eight hO
  have h4 := Rg.Rc.Has4.new (W := wd) (k := wd.heap.size) rfl (.int .i64 (-6)) (.int .i64 (-2)) (.int .i64 (-3)) (.int .i64 3) 26
  have hb4 := al (W := wd) (.cells #[.int .i64 (-6), .int .i64 (-2), .int .i64 (-3), .int .i64 3] 26)
  exact ⟨⟨cell_below hb4 hO8.1.1, cell_below hb4 hO8.1.2.1, cell_below hb4 hO8.1.2.2.1, cell_below hb4 hO8.1.2.2.2, cell_below hb4 hO8.2.1, cell_below hb4 hO8.2.2.1, cell_below hb4 hO8.2.2.2.1, cell_below hb4 hO8.2.2.2.2, h4.c0, h4.c1, h4.c2, h4.c3⟩, via hB hb4⟩
attribute [local go_sem ↓] Rg.eqR
attribute [local go_sem] Rg.eq4_same

set_option maxRecDepth 100000 in
set_option maxHeartbeats 4000000 in
theorem awake_any (w : World) : Calls Tryd.prog 8 #[] w fun e w' => e = .returned (.bool true) ∧ Below w.heap.size w w' := by
  have HA := hid (aw_vn w _ rfl)
  go_enter Tryd.func8, Tryd.ntmps8
  go_wp2
  generalize (((((w.alloc (.cells #[.int .i64 (-1)] 3)).alloc (.cells #[.int .i64 5, .int .i64 0] 3)).alloc (.cells #[.int .i64 0] 3)).alloc (.cells #[.int .i64 1, .int .i64 2] 3)).alloc (.cells #[.int .i64 1, .slice (some ⟨w.heap.size, 0, none⟩) 1 1, .slice (some ⟨w.heap.size + 1, 0, none⟩) 2 2, .int .i64 2, .slice (some ⟨w.heap.size + 1 + 1, 0, none⟩) 1 1, .slice (some ⟨w.heap.size + 1 + 1 + 1, 0, none⟩) 2 2] 24)).alloc (.cells #[.slice (some ⟨w.heap.size + 1 + 1 + 1 + 1, 0, none⟩) 2 2, .int .i64 1] 36) = W at *
  generalize hh : w.heap.size = h at HA
  have hBW : Below w.heap.size w W := by rw [hh]; exact HA.out.2.1
  have HBW := hid hBW
  generalize h + 1 + 1 + 1 + 1 = g at *
  generalize g + 1 = k at *
  have HV := hid HA.out.1
  have hS : Sa W k g W := ⟨HA.out.2.2, Below.refl _ _⟩
  have HB := hid (Below.refl W.heap.size W).drew
  have hkW : k < W.heap.size := World.block_lt_of_cell? _ _ HA.out.2.2.1
  clear HA hBW
  have hsz0 : W.heap.size ≤ W.heap.size := Nat.le_refl _
  go_region_held3 (fun w' => (w'.cell? ⟨k, 0, none⟩ = some (.slice (some ⟨g, 0, none⟩) 2 2) ∧ w'.cell? ⟨k, 1, none⟩ = some (.int .i64 1)) ∧ Below W.heap.size W w') (repeat (first | with_reducible assumption | with_reducible refine sa_drew ?_ | with_reducible refine sa_set4 ?_ ‹_› ‹_› | with_reducible refine sa_below ?_ ‹_› | with_reducible refine sa_alloc ?_)) ((first
    | (go_at_call 20; refine Calls.mono (ofL_any _ _ _ _ _) ?_; rintro e wc ⟨rfl, hb⟩; first
      | (replace HB := hid (via HB.out hb); have hsz : W.heap.size ≤ wc.heap.size := HB.out.size)
      | (have HZ0 : Hid (Rg.Rc.Has4 wc W.heap.size (.int .i64 0) (.int .i64 0) (.int .i64 0) (.int .i64 0)) := hid (aw_new W W.drew (Nat.le_refl _) hb); replace HB := hid (via HB.out (via (al _) hb)); have hsz : W.heap.size + 1 ≤ wc.heap.size := by have h1 := hb.size; simpa using h1))
    | (go_at_call 15; first
      | (refine Calls.mono (aw_c1 HB.out HV.out) ?_; rintro e wd ⟨kb, rfl, HO, hb⟩; (try (have HZ := hid (HZ0.out.below hb); obtain ⟨z0, z1, z2, z3, zf⟩ := id HZ.out)); replace HB := hid (via HB.out hb))
      | (refine Calls.mono (aw_c1 (via HB.out (al _)) HV.out) ?_; rintro e wd ⟨kb, rfl, HO, hb⟩; have HZ := hid (aw_new W wc hsz hb); obtain ⟨z0, z1, z2, z3, zf⟩ := id HZ.out; replace HB := hid (via HB.out (via (al _) hb))))))
  all_goals (
    first
      | have hS2 := pack (aw_s2 HO.out HB.out HZ.out (by first | omega | (simp only [World.size_alloc]; omega)) (by omega))
      | have hS2 := pack (aw_s3 HO.out HB.out)
    obtain ⟨sb, W2, hsb, hW2, hS2⟩ := hS2
    have HW2 := hid hW2
    have HSb := hid hsb
    clear hW2 hS hsb
    (try clear z0 z1 z2 z3 zf)
    go_wp2
    rw [← HW2.out, ← HSb.out]
    clear HW2 HSb
    go_region_held3 (fun w' => (w'.cell? ⟨kb, 0, none⟩ = some (.int .i64 (-1)) ∧ w'.cell? ⟨kb, 1, none⟩ = some (.int .i64 (-2)) ∧ w'.cell? ⟨kb, 2, none⟩ = some (.int .i64 2) ∧ w'.cell? ⟨kb, 3, none⟩ = some (.int .i64 3) ∧ w'.cell? ⟨kb, 4, none⟩ = some (.int .i64 0) ∧ w'.cell? ⟨kb, 5, none⟩ = some (.int .i64 0) ∧ w'.cell? ⟨kb, 6, none⟩ = some (.int .i64 1) ∧ w'.cell? ⟨kb, 7, none⟩ = some (.int .i64 1) ∧ w'.cell? ⟨sb, 0, none⟩ = some (.int .i64 (-6)) ∧ w'.cell? ⟨sb, 1, none⟩ = some (.int .i64 (-2)) ∧ w'.cell? ⟨sb, 2, none⟩ = some (.int .i64 (-3)) ∧ w'.cell? ⟨sb, 3, none⟩ = some (.int .i64 3)) ∧ Below W.heap.size W w') (repeat (first | with_reducible assumption | with_reducible refine sb_drew ?_ | with_reducible refine sb_below ?_ ‹_›)) ((first
      | (go_at_call 20; with_reducible refine Calls.mono (ofL_any _ _ _ _ _) ?_; rintro e we ⟨rfl, hb⟩)))
    go_wp2
    go_ret
    rename_i hq
    exact ⟨rfl, via HBW.out hq.2⟩)
end Go.Proofs.YtamojciiacmjaaaDoor
