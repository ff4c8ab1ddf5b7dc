/- The fixed answers (awake): the contract. -/
import Derived.Test.YteiihgoobhlkbaaDoorFoLaw
namespace Go.Proofs.YteiihgoobhlkbaaDoor
open Num Go.RowKit
open Rg.Num (Pr Ok Inv Wi setsL orF cutF)
set_option linter.unusedVariables false
set_option linter.unusedSimpArgs false

/-- what a node does, whatever the places of its lists -/
def coreV (v : Nv) : Int × List Int × List Int := (v.op, v.l, v.p)
theorem core_at {L M : List Nv} (h : L.map coreV = M.map coreV) (a : Nat) : (L[a]? = none ∧ M[a]? = none) ∨ ∃ u v, L[a]? = some u ∧ M[a]? = some v ∧ u.op = v.op ∧ u.l = v.l ∧ u.p = v.p := by
  have h1 : (L.map coreV)[a]? = (M.map coreV)[a]? := by rw [h]
  rw [List.getElem?_map, List.getElem?_map] at h1
  cases hL : L[a]? with
  | none => cases hM : M[a]? with
    | none => exact Or.inl ⟨rfl, rfl⟩
    | some v => rw [hL, hM] at h1; cases h1
  | some u => cases hM : M[a]? with
    | none => rw [hL, hM] at h1; cases h1
    | some v =>
      rw [hL, hM] at h1
      have e : coreV u = coreV v := Option.some.inj h1
      unfold coreV at e
      simp only [Prod.mk.injEq] at e
      exact Or.inr ⟨u, v, rfl, rfl, e.1, e.2.1, e.2.2⟩
theorem core_ins {L M : List Nv} (h : L.map coreV = M.map coreV) : insL L = insL M := by
  have e : ∀ K : List Nv, insL K = (K.map coreV).map fun x => x.2.1 := fun K => by unfold insL; rw [List.map_map]; rfl
  rw [e, e, h]
theorem core_len {L M : List Nv} (h : L.map coreV = M.map coreV) : L.length = M.length := by
  have := congrArg List.length h
  simpa using this
theorem spread_core {L M : List Nv} (h : L.map coreV = M.map coreV) (N : List Bool) (out : Int) (s : List RR) : spreadG L N out s = spreadG M N out s := by
  have e : stepG L N s = stepG M N s := by
    funext K a
    unfold stepG
    rcases core_at h a with ⟨h1, h2⟩ | ⟨u, v, h1, h2, e1, e2, e3⟩
    · rw [h1, h2]
    · rw [h1, h2]
      dsimp only
      unfold makeG
      rw [e1, e2, e3]
  unfold spreadG runG
  rw [e, core_ins h, core_len h]
theorem reach_core {L M : List Nv} (h : L.map coreV = M.map coreV) (N : List Bool) (out : Int) (s : RR) : reachG L N out s = reachG M N out s := by
  have e : stepR L N s = stepR M N s := by
    funext K a
    unfold stepR
    rcases core_at h a with ⟨h1, h2⟩ | ⟨u, v, h1, h2, e1, e2, e3⟩
    · rw [h1, h2]
    · rw [h1, h2]
      dsimp only
      unfold makeR
      rw [e1, e2, e3]
  unfold reachG runR
  rw [e, core_ins h, core_len h]

/-- the two nodes -/
def awL (h : Nat) : List Nv := [⟨1, some ⟨h, 0, none⟩, 1, 1, h, 0, [-1], some ⟨h + 1, 0, none⟩, 2, 2, h + 1, 0, [5, 0]⟩, ⟨2, some ⟨h + 1 + 1, 0, none⟩, 1, 1, h + 1 + 1, 0, [0], some ⟨h + 1 + 1 + 1, 0, none⟩, 2, 2, h + 1 + 1 + 1, 0, [1, 2]⟩]
theorem aw_core (h : Nat) : (awL h).map coreV = (awL 0).map coreV := rfl
theorem aw_nd (h : Nat) : Nd (insL (awL h)) 1 [true, true] := by
  have e : insL (awL h) = [[-1], [0]] := rfl
  rw [e]
  have h1 : Rch [[-1], [0]] 1 1 := Rch.out 1 rfl (by decide)
  refine ⟨rfl, fun k hk => ?_⟩
  have hk2 : k = 0 ∨ k = 1 := by simp at hk; omega
  rcases hk2 with rfl | rfl
  · exact ⟨fun _ => Rch.step 1 0 h1 (by decide) (by decide), fun _ => rfl⟩
  · exact ⟨fun _ => h1, fun _ => rfl⟩
theorem aw_sp : spreadG (awL 0) [true, true] 1 [⟨0, 0, 1, 1⟩] = [⟨4, -2, 7, 3⟩] := by decide +kernel
theorem aw_re : reachG (awL 0) [true, true] 1 ⟨0, 0, 1, 1⟩ = ⟨4, -2, 7, 3⟩ := by decide +kernel
theorem aw_few (h : Nat) : Few 2 (awL h) := ⟨by decide, fun v hv => by
  unfold awL at hv
  simp only [List.mem_cons, List.not_mem_nil, or_false] at hv
  rcases hv with rfl | rfl <;> (show 1 ≤ 1000; decide)⟩
theorem aw_pr (h : Nat) : ∀ v, v ∈ awL h → Pr v.op (nth v.p) := fun v hv => by
  unfold awL at hv
  simp only [List.mem_cons, List.not_mem_nil, or_false] at hv
  rcases hv with rfl | rfl
  · exact pr_of (show allB (bnds 1) [5, 0] = true by decide)
  · exact pr_of (show allB (bnds 2) [1, 2] = true by decide)
theorem aw_op (h : Nat) : ∀ v, v ∈ awL h → v.op = 1 ∨ v.op = 2 := fun v hv => by
  unfold awL at hv
  simp only [List.mem_cons, List.not_mem_nil, or_false] at hv
  rcases hv with rfl | rfl
  · exact Or.inl rfl
  · exact Or.inr rfl
theorem aw_ik (h : Nat) {s : List RR} (hs : Inv [0, 1] [0, 1] s) : IK 0 s (List.replicate (awL h).length []) := ik_start hs (by decide) (by decide) _
theorem aw_i1 : Inv [0, 1] [0, 1] [⟨0, 0, 1, 1⟩] := Rg.Num.inv_one (r := ⟨0, 0, 1, 1⟩) (by unfold Ok; decide)

/-- the world that the two nodes are laid in -/
theorem aw_vn (w W : World) (hW : W = (((((w.alloc (.cells #[.int .i64 (-1)] 3)).alloc (.cells #[.int .i64 5, .int .i64 0] 3)).alloc (.cells #[.int .i64 0] 3)).alloc (.cells #[.int .i64 1, .int .i64 2] 3)).alloc (.cells #[.int .i64 1, .slice (some ⟨w.heap.size, 0, none⟩) 1 1, .slice (some ⟨w.heap.size + 1, 0, none⟩) 2 2, .int .i64 2, .slice (some ⟨w.heap.size + 1 + 1, 0, none⟩) 1 1, .slice (some ⟨w.heap.size + 1 + 1 + 1, 0, none⟩) 2 2] 39)).alloc (.cells #[.slice (some ⟨w.heap.size + 1 + 1 + 1 + 1, 0, none⟩) 2 2, .int .i64 1] 24)) :
    Vn W (some ⟨w.heap.size + 1 + 1 + 1 + 1, 0, none⟩) 2 2 (w.heap.size + 1 + 1 + 1 + 1) 0 (awL w.heap.size) ∧ Below w.heap.size w W ∧ (W.cell? ⟨w.heap.size + 1 + 1 + 1 + 1 + 1, 0, none⟩ = some (.slice (some ⟨w.heap.size + 1 + 1 + 1 + 1, 0, none⟩) 2 2) ∧ W.cell? ⟨w.heap.size + 1 + 1 + 1 + 1 + 1, 1, none⟩ = some (.int .i64 1)) := by
  subst hW
  have l0 := lit_new w (-1)
  have b0 := al (W := w) (.cells #[.int .i64 (-1)] 3)
  have z0 : (w.alloc (.cells #[.int .i64 (-1)] 3)).heap.size = w.heap.size + 1 := by simp
  generalize (w.alloc (.cells #[.int .i64 (-1)] 3)) = W0 at *
  have l1 := (oi_news (w := W0) (lo := 0) (Nat.zero_le _) [5, 0] (by simp) 3).v
  have b1 := al (W := W0) (.cells #[.int .i64 5, .int .i64 0] 3)
  have z1 : (W0.alloc (.cells #[.int .i64 5, .int .i64 0] 3)).heap.size = w.heap.size + 1 + 1 := by simp [z0]
  rw [z0] at l1
  have l1' : Vi (W0.alloc (.cells #[.int .i64 5, .int .i64 0] 3)) (some ⟨w.heap.size + 1, 0, none⟩) 2 2 (w.heap.size + 1) 0 [5, 0] := l1
  clear l1
  generalize (W0.alloc (.cells #[.int .i64 5, .int .i64 0] 3)) = W1 at *
  have l2 := lit_new W1 0
  rw [z1] at l2
  have b2 := al (W := W1) (.cells #[.int .i64 0] 3)
  have z2 : (W1.alloc (.cells #[.int .i64 0] 3)).heap.size = w.heap.size + 1 + 1 + 1 := by simp [z1]
  generalize (W1.alloc (.cells #[.int .i64 0] 3)) = W2 at *
  have l3 := (oi_news (w := W2) (lo := 0) (Nat.zero_le _) [1, 2] (by simp) 3).v
  have b3 := al (W := W2) (.cells #[.int .i64 1, .int .i64 2] 3)
  have z3 : (W2.alloc (.cells #[.int .i64 1, .int .i64 2] 3)).heap.size = w.heap.size + 1 + 1 + 1 + 1 := by simp [z2]
  rw [z2] at l3
  have l3' : Vi (W2.alloc (.cells #[.int .i64 1, .int .i64 2] 3)) (some ⟨w.heap.size + 1 + 1 + 1, 0, none⟩) 2 2 (w.heap.size + 1 + 1 + 1) 0 [1, 2] := l3
  clear l3
  generalize (W2.alloc (.cells #[.int .i64 1, .int .i64 2] 3)) = W3 at *
  have hn := (oz_news (sz := 3) (lo := 0) (w := W3) (Nat.zero_le _) (flatN (awL w.heap.size)) 2 rfl (by decide) 39).v
  rw [z3] at hn
  have b4 := al (W := W3) (.cells #[.int .i64 1, .slice (some ⟨w.heap.size, 0, none⟩) 1 1, .slice (some ⟨w.heap.size + 1, 0, none⟩) 2 2, .int .i64 2, .slice (some ⟨w.heap.size + 1 + 1, 0, none⟩) 1 1, .slice (some ⟨w.heap.size + 1 + 1 + 1, 0, none⟩) 2 2] 39)
  have z4 : (W3.alloc (.cells #[.int .i64 1, .slice (some ⟨w.heap.size, 0, none⟩) 1 1, .slice (some ⟨w.heap.size + 1, 0, none⟩) 2 2, .int .i64 2, .slice (some ⟨w.heap.size + 1 + 1, 0, none⟩) 1 1, .slice (some ⟨w.heap.size + 1 + 1 + 1, 0, none⟩) 2 2] 39)).heap.size = w.heap.size + 1 + 1 + 1 + 1 + 1 := by simp [z3]
  have hn' : Vz 3 (W3.alloc (.cells #[.int .i64 1, .slice (some ⟨w.heap.size, 0, none⟩) 1 1, .slice (some ⟨w.heap.size + 1, 0, none⟩) 2 2, .int .i64 2, .slice (some ⟨w.heap.size + 1 + 1, 0, none⟩) 1 1, .slice (some ⟨w.heap.size + 1 + 1 + 1, 0, none⟩) 2 2] 39)) (some ⟨w.heap.size + 1 + 1 + 1 + 1, 0, none⟩) 2 2 (w.heap.size + 1 + 1 + 1 + 1) 0 (flatN (awL w.heap.size)) := hn
  clear hn
  generalize (W3.alloc (.cells #[.int .i64 1, .slice (some ⟨w.heap.size, 0, none⟩) 1 1, .slice (some ⟨w.heap.size + 1, 0, none⟩) 2 2, .int .i64 2, .slice (some ⟨w.heap.size + 1 + 1, 0, none⟩) 1 1, .slice (some ⟨w.heap.size + 1 + 1 + 1, 0, none⟩) 2 2] 39)) = W4 at *
  have hg := sg_new W4 (some ⟨w.heap.size + 1 + 1 + 1 + 1, 0, none⟩) 2 2 1 24
  have b5 := hg.2
  obtain ⟨q0, q1⟩ := hg.1
  rw [z4] at q0 q1
  refine ⟨⟨hn'.below b5, fun v hv => ?_, fun v hv => ?_⟩, via (via (via (via (via b0 b1) b2) b3) b4) b5, q0, q1⟩
  · unfold awL at hv
    simp only [List.mem_cons, List.not_mem_nil, or_false] at hv
    rcases hv with rfl | rfl
    · exact ((((l0.below b1).below b2).below b3).below b4).below b5
    · exact ((l2.below b3).below b4).below b5
  · unfold awL at hv
    simp only [List.mem_cons, List.not_mem_nil, or_false] at hv
    rcases hv with rfl | rfl
    · exact (((l1'.below b2).below b3).below b4).below b5
    · exact (l3'.below b4).below b5

/-- the filter's box and all that was there when it was laid -/
abbrev Sa (W : World) (k g : Nat) (w' : World) : Prop := (w'.cell? ⟨k, 0, none⟩ = some (.slice (some ⟨g, 0, none⟩) 2 2) ∧ w'.cell? ⟨k, 1, none⟩ = some (.int .i64 1)) ∧ Below W.heap.size W w'
section
variable {W : World} {k g : Nat} {w' : World}
theorem sa_drew (h : Sa W k g w') : Sa W k g w'.drew := ⟨h.1, h.2.drew⟩
theorem sa_below {w2 : World} (h : Sa W k g w') (hb : Below w'.heap.size w' w2) : Sa W k g w2 := ⟨⟨cell_below hb h.1.1, cell_below hb h.1.2⟩, via h.2 hb⟩
theorem sa_alloc {o : Obj} (h : Sa W k g w') : Sa W k g (w'.alloc o) := sa_below h (al o)
end
/-- the calls -/
theorem aw_c1 {W W' : World} {g h : Nat} (hB : Below W.heap.size W W') (hV : Vn W (some ⟨g, 0, none⟩) 2 2 g 0 (awL h)) :
    Calls Tryd.prog 9 #[.agg #[.slice (some ⟨g, 0, none⟩) 2 2, .int .i64 1], .slice (some ⟨W'.heap.size, 0, none⟩) 1 1] (W'.alloc (.cells #[.int .i64 0, .int .i64 0, .int .i64 1, .int .i64 1] 34)) fun e w' => ∃ ao n c b off, e = .returned (.slice ao n c) ∧ Hid (Rg.Vw w' ao n c b off [⟨4, -2, 7, 3⟩]) ∧ Below (W'.alloc (.cells #[.int .i64 0, .int .i64 0, .int .i64 1, .int .i64 1] 34)).heap.size (W'.alloc (.cells #[.int .i64 0, .int .i64 0, .int .i64 1, .int .i64 1] 34)) w' := by
  refine (spreadAll_any (some ⟨g, 0, none⟩) 2 2 g 0 (awL h) 1 ⟨some ⟨W'.heap.size, 0, none⟩, 1, 1, W'.heap.size, 0, [⟨0, 0, 1, 1⟩]⟩ _ (hV.below (via hB (al _))) (aw_few h) (Rg.new1 W' 0 0 1 1) (aw_pr h) (by decide) (aw_ik h aw_i1)).mono fun e w' hh => ?_
  obtain ⟨⟨N, hN, ao, n, c, b, off, rfl, hO⟩, hb⟩ := hh
  obtain rfl := nd_uniq hN (aw_nd h)
  have e : spreadG (awL h) [true, true] 1 [⟨0, 0, 1, 1⟩] = [⟨4, -2, 7, 3⟩] := (spread_core (aw_core h) _ _ _).trans aw_sp
  have hv : Rg.Vw w' ao n c b off (spreadG (awL h) [true, true] 1 [⟨0, 0, 1, 1⟩]) := hO.v
  rw [e] at hv
  exact ⟨ao, n, c, b, off, rfl, hv, hb⟩
theorem aw_c2 {W W' : World} {g h : Nat} (hB : Below W.heap.size W W') (hV : Vn W (some ⟨g, 0, none⟩) 2 2 g 0 (awL h)) :
    Calls Tryd.prog 12 #[.agg #[.slice (some ⟨g, 0, none⟩) 2 2, .int .i64 1], .agg #[.int .i64 0, .int .i64 0, .int .i64 1, .int .i64 1]] W' fun e w' => e = .returned (.agg #[.int .i64 4, .int .i64 (-2), .int .i64 7, .int .i64 3]) ∧ Below W'.heap.size W' w' := by
  refine (reachAll_any (some ⟨g, 0, none⟩) 2 2 g 0 (awL h) 1 ⟨0, 0, 1, 1⟩ _ (hV.below hB) (aw_few h) (by unfold Ok; decide) (aw_pr h) (aw_op h) (by decide)).mono fun e w' hh => ?_
  obtain ⟨⟨N, hN, rfl⟩, hb⟩ := hh
  obtain rfl := nd_uniq hN (aw_nd h)
  have e : reachG (awL h) [true, true] 1 ⟨0, 0, 1, 1⟩ = ⟨4, -2, 7, 3⟩ := (reach_core (aw_core h) _ _ _).trans aw_re
  rw [e]
  exact ⟨rfl, hb⟩
theorem aw_c3 {W W' : World} {g h : Nat} (hB : Below W.heap.size W W') (hV : Vn W (some ⟨g, 0, none⟩) 2 2 g 0 (awL h)) :
    Calls Tryd.prog 9 #[.agg #[.slice (some ⟨g, 0, none⟩) 2 2, .int .i64 1], .slice none 0 0] W' fun e w' => ∃ ao c, e = .returned (.slice ao 0 c) ∧ Below W'.heap.size W' w' := by
  refine (spreadAll_any (some ⟨g, 0, none⟩) 2 2 g 0 (awL h) 1 nilR _ (hV.below hB) (aw_few h) (rw_nil _) (aw_pr h) (by decide) (aw_ik h (Rg.Num.inv_nil _ _))).mono fun e w' hh => ?_
  obtain ⟨⟨N, hN, ao, n, c, b, off, rfl, hO⟩, hb⟩ := hh
  have hv : Rg.Vw w' ao n c b off (spreadG (awL h) N 1 []) := hO.v
  rw [none_spread] at hv
  have hn : n = 0 := (Rg.vw_len hv).symm
  subst hn
  exact ⟨ao, c, rfl, hb⟩
theorem aw_same {W : World} {ao : Option Addr} {n c b off : Nat} (h : Rg.Vw W ao n c b off [⟨4, -2, 7, 3⟩]) :
    Calls Tryd.prog 10 #[.slice ao n c, .slice (some ⟨W.heap.size, 0, none⟩) 1 1] (W.alloc (.cells #[.int .i64 4, .int .i64 (-2), .int .i64 7, .int .i64 3] 34)) fun e w' => e = .returned (.bool true) ∧ Below (W.alloc (.cells #[.int .i64 4, .int .i64 (-2), .int .i64 7, .int .i64 3] 34)).heap.size (W.alloc (.cells #[.int .i64 4, .int .i64 (-2), .int .i64 7, .int .i64 3] 34)) w' := by
  refine (Rg.same_any ao n c b off [⟨4, -2, 7, 3⟩] _ 1 1 _ 0 [⟨4, -2, 7, 3⟩] _ (Rg.Vz.below h (al _)) (Rg.new1 W 4 (-2) 7 3)).mono fun e w' hh => ?_
  obtain ⟨rfl, hb⟩ := hh
  exact ⟨by rw [decide_eq_true rfl], hb⟩
attribute [local go_sem ↓] Rg.eqR
attribute [local go_sem] Rg.eq4_same

set_option maxRecDepth 100000 in
set_option maxHeartbeats 4000000 in
theorem awake_any (w : World) : Calls Tryd.prog 5 #[] w fun e w' => e = .returned (.bool true) ∧ Below w.heap.size w w' := by
  have HA := hid (aw_vn w _ rfl)
  go_enter Tryd.func5, Tryd.ntmps5
  go_wp2
  generalize (((((w.alloc (.cells #[.int .i64 (-1)] 3)).alloc (.cells #[.int .i64 5, .int .i64 0] 3)).alloc (.cells #[.int .i64 0] 3)).alloc (.cells #[.int .i64 1, .int .i64 2] 3)).alloc (.cells #[.int .i64 1, .slice (some ⟨w.heap.size, 0, none⟩) 1 1, .slice (some ⟨w.heap.size + 1, 0, none⟩) 2 2, .int .i64 2, .slice (some ⟨w.heap.size + 1 + 1, 0, none⟩) 1 1, .slice (some ⟨w.heap.size + 1 + 1 + 1, 0, none⟩) 2 2] 39)).alloc (.cells #[.slice (some ⟨w.heap.size + 1 + 1 + 1 + 1, 0, none⟩) 2 2, .int .i64 1] 24) = W at *
  generalize hh : w.heap.size = h at HA
  have hBW : Below w.heap.size w W := by rw [hh]; exact HA.out.2.1
  have HBW := hid hBW
  generalize h + 1 + 1 + 1 + 1 = g at *
  generalize g + 1 = k at *
  have HV := hid HA.out.1
  have hS : Sa W k g W := ⟨HA.out.2.2, Below.refl _ _⟩
  have HB := hid (Below.refl W.heap.size W).drew
  clear HA hBW
  go_region_held3 (fun w' => (w'.cell? ⟨k, 0, none⟩ = some (.slice (some ⟨g, 0, none⟩) 2 2) ∧ w'.cell? ⟨k, 1, none⟩ = some (.int .i64 1)) ∧ Below W.heap.size W w') (repeat (first | with_reducible assumption | with_reducible refine sa_drew ?_ | with_reducible refine sa_below ?_ ‹_› | with_reducible refine sa_alloc ?_)) ((first
    | (go_at_call 11; with_reducible refine Calls.mono (of_any _ _ _ _ _) ?_; rintro e wc ⟨rfl, hb⟩; replace HB := hid (via HB.out hb); (try replace HX := hid (Rg.Vz.below HX.out hb)))
    | (go_at_call 9; with_reducible refine Calls.mono (aw_c1 HB.out HV.out) ?_; rintro e wc ⟨ao1, n1, c1, b1, o1, rfl, HX, hb⟩; replace HB := hid (via HB.out (via (al _) hb)))
    | (go_at_call 10; with_reducible refine Calls.mono (aw_same HX.out) ?_; rintro e wc ⟨rfl, hb⟩; replace HB := hid (via HB.out (via (al _) hb)); clear HX)
    | (go_at_call 12; with_reducible refine Calls.mono (aw_c2 HB.out HV.out) ?_; rintro e wc ⟨rfl, hb⟩; replace HB := hid (via HB.out hb))
    | (go_at_call 9; with_reducible refine Calls.mono (aw_c3 HB.out HV.out) ?_; rintro e wc ⟨ao2, c2, rfl, hb⟩; replace HB := hid (via HB.out hb))))
  go_wp2
  go_ret
  exact ⟨rfl, via HBW.out HB.out⟩
end Go.Proofs.YteiihgoobhlkbaaDoor
