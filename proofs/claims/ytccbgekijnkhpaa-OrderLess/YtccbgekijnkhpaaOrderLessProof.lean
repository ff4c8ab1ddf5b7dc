/- For every filter: with a node's inputs left out it leads round only if it did with them; no condition. -/
import Derived.Test.YtccbgekijnkhpaaRows
import Derived.WalkKit
import Derived.ProofKit
import Derived.OpenShut
import Derived.Test.YtccbgekijnkhpaaOpen
import Derived.Test.YtccbgekijnkhpaaLawS
namespace Go.Proofs.Ytccbgekijnkhpaa.orderLess
open Go.ChangeShapes Go.WideShapes Go.ChangeAt Go.RowKit Num
set_option linter.unusedVariables false
set_option linter.unusedSimpArgs false
attribute [local go_sem ↓] run_app
attribute [local go_sem] lenV_slice

theorem info36 : (Try.prog.info? 36).map (fun i => (i.zero, i.size, i.bytes)) = some (some (.agg #[.int .i64 0, .slice none 0 0, .slice none 0 0]), 3, 56) := by kernel_rfl
theorem one_flatN (L : List Nv) : ∀ v ∈ flatN L, v.oneCell' = true := by
  intro v hv
  unfold flatN at hv
  obtain ⟨r, -, hr⟩ := List.mem_flatMap.1 hv
  simp only [cellsN, List.mem_cons, List.not_mem_nil, or_false] at hr
  rcases hr with rfl | rfl | rfl <;> rfl
/-- nodes, copied behind none -/
theorem app_nodes {w : World} {ao : Option Addr} {n c b off : Nat} {L : List Nv} (h : Vn w ao n c b off L) (hn : n ≤ 1000) (g : Nat) :
    ∃ b' off', App 3 w.heap.size #[22, 22] 22 w (some ⟨g, 0, none⟩) 0 0 0 [] (.slice ao n c) n (flatN L) b' off' :=
  app_own (oz_nil 3 w.heap.size w (some ⟨g, 0, none⟩)) (Nat.le_refl _) 22 22 22 36 _ 56 Try.underlying22 info36 rfl _ n (flatN L) (src_of h.z (by decide) Try.underlying22 (one_flatN L)) (by simp only [maxLen]; omega) (by omega)

theorem app_fine0 {w : World} {g n c b' off' : Nat} {ao : Option Addr} {cs : List Value} (h : App 3 w.heap.size #[22, 22] 22 w (some ⟨g, 0, none⟩) 0 0 0 [] (.slice ao n c) n cs b' off') : Fine Try.prog #[22, 22] 22 w (.slice (some ⟨g, 0, none⟩) 0 0) (.slice ao n c) n := by
  have := h.fine
  rw [Nat.zero_add] at this
  exact this
theorem app_box {w : World} {g n c b' off' : Nat} {ao : Option Addr} {cs : List Value} (h : App 3 w.heap.size #[22, 22] 22 w (some ⟨g, 0, none⟩) 0 0 0 [] (.slice ao n c) n cs b' off') {k : Nat} {v0 v1 : Value} (hk : w.cell? ⟨k, 0, none⟩ = some v0 ∧ w.cell? ⟨k, 1, none⟩ = some v1) :
    (apW Try.prog #[22, 22] 22 w (.slice (some ⟨g, 0, none⟩) 0 0) (.slice ao n c)).cell? ⟨k, 0, none⟩ = some v0 ∧ (apW Try.prog #[22, 22] 22 w (.slice (some ⟨g, 0, none⟩) 0 0) (.slice ao n c)).cell? ⟨k, 1, none⟩ = some v1 :=
  ⟨(h.cell (World.block_lt_of_cell? _ _ hk.1) (fun hc => absurd hc (by omega)) 0).1.trans hk.1, (h.cell (World.block_lt_of_cell? _ _ hk.1) (fun hc => absurd hc (by omega)) 1).1.trans hk.2⟩
theorem app_fz {w : World} {g n c b' off' : Nat} {ao : Option Addr} {cs : List Value} (h : App 3 w.heap.size #[22, 22] 22 w (some ⟨g, 0, none⟩) 0 0 0 [] (.slice ao n c) n cs b' off') {k : Nat} (hk : k < w.heap.size) (hf : ∀ o, w.frozen? ⟨k, o, none⟩ = false) :
    ∀ o, (apW Try.prog #[22, 22] 22 w (.slice (some ⟨g, 0, none⟩) 0 0) (.slice ao n c)).frozen? ⟨k, o, none⟩ = false :=
  fun o => (h.cell hk (fun hc => absurd hc (by omega)) o).2.trans (hf o)
theorem bx_of {W w : World} {k : Nat} {v0 v1 : Value} (h0 : W.cell? ⟨k, 0, none⟩ = some v0) (h1 : W.cell? ⟨k, 1, none⟩ = some v1) (hb : Below W.heap.size W w) : w.cell? ⟨k, 0, none⟩ = some v0 ∧ w.cell? ⟨k, 1, none⟩ = some v1 := ⟨cell_below hb h0, cell_below hb h1⟩
theorem hbox_b (w2 : World) : ((w2.alloc (.cells #[.slice none 0 0, .int .i64 0] 24)).alloc (.cells #[] 36)).drew.cell? ⟨w2.heap.size, 0, none⟩ = some (.slice none 0 0) ∧ ((w2.alloc (.cells #[.slice none 0 0, .int .i64 0] 24)).alloc (.cells #[] 36)).drew.cell? ⟨w2.heap.size, 1, none⟩ = some (.int .i64 0) :=
  bx_of (World.cell?_alloc_new w2 #[.slice none 0 0, .int .i64 0] 24 0) (World.cell?_alloc_new w2 #[.slice none 0 0, .int .i64 0] 24 1) ((Below.refl _ _).alloc (Nat.le_refl _) _).drew
theorem hbox_bf (w2 : World) : ∀ o, ((w2.alloc (.cells #[.slice none 0 0, .int .i64 0] 24)).alloc (.cells #[] 36)).drew.frozen? ⟨w2.heap.size, o, none⟩ = false := fun o =>
  ((((Below.refl _ (w2.alloc (.cells #[.slice none 0 0, .int .i64 0] 24))).alloc (Nat.le_refl _) (.cells #[] 36)).drew).frozen (p := ⟨w2.heap.size, o, none⟩) (by simp)).trans (World.frozen?_alloc_new w2 #[.slice none 0 0, .int .i64 0] 24 o)
theorem hbox_c (w2 : World) : ((w2.alloc (.cells #[] 36)).alloc (.cells #[.slice none 0 0, .int .i64 0] 24)).drew.cell? ⟨w2.heap.size + 1, 0, none⟩ = some (.slice none 0 0) ∧ ((w2.alloc (.cells #[] 36)).alloc (.cells #[.slice none 0 0, .int .i64 0] 24)).drew.cell? ⟨w2.heap.size + 1, 1, none⟩ = some (.int .i64 0) := by
  have e : (w2.alloc (.cells #[] 36)).heap.size = w2.heap.size + 1 := by simp
  have h0 := World.cell?_alloc_new (w2.alloc (.cells #[] 36)) #[.slice none 0 0, .int .i64 0] 24 0
  have h1 := World.cell?_alloc_new (w2.alloc (.cells #[] 36)) #[.slice none 0 0, .int .i64 0] 24 1
  rw [e] at h0 h1
  exact ⟨h0, h1⟩
theorem hbox_cf (w2 : World) : ∀ o, ((w2.alloc (.cells #[] 36)).alloc (.cells #[.slice none 0 0, .int .i64 0] 24)).drew.frozen? ⟨w2.heap.size + 1, o, none⟩ = false := fun o => by
  have e : (w2.alloc (.cells #[] 36)).heap.size = w2.heap.size + 1 := by simp
  have h0 := World.frozen?_alloc_new (w2.alloc (.cells #[] 36)) #[.slice none 0 0, .int .i64 0] 24 o
  rw [e] at h0
  exact h0
/-- the filter, and its copy: two cells in hp, the nodes above -/
structure Lg (w : World) (ao : Option Addr) (n c : Nat) (out : Int) (L : List Nv) (hp : Nat) (a4 : Option Addr) (c4 p4 q4 : Nat) (W : World) : Prop where
  sg : Sg w ao n c out W
  h0 : W.cell? ⟨hp, 0, none⟩ = some (.slice a4 n c4)
  h1 : W.cell? ⟨hp, 1, none⟩ = some (.int .i64 out)
  own : Oz 3 (w.heap.size + 1) W a4 n c4 p4 q4 (flatN L)
  ne : p4 ≠ hp
theorem lg_of {w X : World} {ao a1 : Option Addr} {n c c1 : Nat} {out : Int} {L : List Nv} {g b' off' : Nat} (hn : 0 < n) (sg : Sg w ao n c out X) (h : App 3 X.heap.size #[22, 22] 22 X (some ⟨g, 0, none⟩) 0 0 0 [] (.slice a1 n c1) n (flatN L) b' off') :
    Sg w ao n c out (apW Try.prog #[22, 22] 22 X (.slice (some ⟨g, 0, none⟩) 0 0) (.slice a1 n c1)) ∧ X.heap.size ≤ b' ∧ b' < (apW Try.prog #[22, 22] 22 X (.slice (some ⟨g, 0, none⟩) 0 0) (.slice a1 n c1)).heap.size ∧
    Oz 3 (w.heap.size + 1) (apW Try.prog #[22, 22] 22 X (.slice (some ⟨g, 0, none⟩) 0 0) (.slice a1 n c1)) (apA Try.prog #[22, 22] 22 X (.slice (some ⟨g, 0, none⟩) 0 0) (.slice a1 n c1)) n (apC Try.prog #[22, 22] 22 X (.slice (some ⟨g, 0, none⟩) 0 0) (.slice a1 n c1)) b' off' (flatN L) := by
  have ho := h.own
  rw [Nat.zero_add, List.nil_append] at ho
  have hc : 0 < apC Try.prog #[22, 22] 22 X (.slice (some ⟨g, 0, none⟩) 0 0) (.slice a1 n c1) := by have := ho.v.le; omega
  have hk : w.heap.size < X.heap.size := World.block_lt_of_cell? _ _ sg.1.1
  exact ⟨sg_below sg h.below, (ho.new hc).1, (ho.new hc).2, ho.mono (by omega)⟩
theorem lg_new {w X : World} {ao a1 : Option Addr} {n c c1 : Nat} {out : Int} {L : List Nv} {g b' off' : Nat} (hn : 0 < n) (sg : Sg w ao n c out X) (h : App 3 X.heap.size #[22, 22] 22 X (some ⟨g, 0, none⟩) 0 0 0 [] (.slice a1 n c1) n (flatN L) b' off') :
    Lg w ao n c out L (apW Try.prog #[22, 22] 22 X (.slice (some ⟨g, 0, none⟩) 0 0) (.slice a1 n c1)).heap.size (apA Try.prog #[22, 22] 22 X (.slice (some ⟨g, 0, none⟩) 0 0) (.slice a1 n c1)) (apC Try.prog #[22, 22] 22 X (.slice (some ⟨g, 0, none⟩) 0 0) (.slice a1 n c1)) b' off'
      ((apW Try.prog #[22, 22] 22 X (.slice (some ⟨g, 0, none⟩) 0 0) (.slice a1 n c1)).alloc (.cells #[.slice (apA Try.prog #[22, 22] 22 X (.slice (some ⟨g, 0, none⟩) 0 0) (.slice a1 n c1)) n (apC Try.prog #[22, 22] 22 X (.slice (some ⟨g, 0, none⟩) 0 0) (.slice a1 n c1)), .int .i64 out] 24)) := by
  obtain ⟨s1, s2, s3, s4⟩ := lg_of hn sg h
  generalize apW Try.prog #[22, 22] 22 X (.slice (some ⟨g, 0, none⟩) 0 0) (.slice a1 n c1) = W at *
  have hb := (Below.refl W.heap.size W).alloc (Nat.le_refl _) (.cells #[.slice (apA Try.prog #[22, 22] 22 X (.slice (some ⟨g, 0, none⟩) 0 0) (.slice a1 n c1)) n (apC Try.prog #[22, 22] 22 X (.slice (some ⟨g, 0, none⟩) 0 0) (.slice a1 n c1)), .int .i64 out] 24)
  exact ⟨sg_below s1 hb, World.cell?_alloc_new W _ _ 0, World.cell?_alloc_new W _ _ 1, s4.below hb, by omega⟩
theorem lg_set {w X : World} {ao a1 : Option Addr} {n c c1 : Nat} {out : Int} {L : List Nv} {g b' off' hp : Nat} (hn : 0 < n) (sg : Sg w ao n c out X) (h : App 3 X.heap.size #[22, 22] 22 X (some ⟨g, 0, none⟩) 0 0 0 [] (.slice a1 n c1) n (flatN L) b' off') {v0 v1 : Value}
    (hv : (apW Try.prog #[22, 22] 22 X (.slice (some ⟨g, 0, none⟩) 0 0) (.slice a1 n c1)).cell? ⟨hp, 0, none⟩ = some v0 ∧ (apW Try.prog #[22, 22] 22 X (.slice (some ⟨g, 0, none⟩) 0 0) (.slice a1 n c1)).cell? ⟨hp, 1, none⟩ = some v1) (hp1 : hp < X.heap.size) (hp2 : w.heap.size < hp) :
    Lg w ao n c out L hp (apA Try.prog #[22, 22] 22 X (.slice (some ⟨g, 0, none⟩) 0 0) (.slice a1 n c1)) (apC Try.prog #[22, 22] 22 X (.slice (some ⟨g, 0, none⟩) 0 0) (.slice a1 n c1)) b' off'
      (((apW Try.prog #[22, 22] 22 X (.slice (some ⟨g, 0, none⟩) 0 0) (.slice a1 n c1)).setCell ⟨hp, 0, none⟩ (.slice (apA Try.prog #[22, 22] 22 X (.slice (some ⟨g, 0, none⟩) 0 0) (.slice a1 n c1)) n (apC Try.prog #[22, 22] 22 X (.slice (some ⟨g, 0, none⟩) 0 0) (.slice a1 n c1)))).setCell ⟨hp, 1, none⟩ (.int .i64 out)) := by
  obtain ⟨s1, s2, s3, s4⟩ := lg_of hn sg h
  generalize apW Try.prog #[22, 22] 22 X (.slice (some ⟨g, 0, none⟩) 0 0) (.slice a1 n c1) = W at *
  generalize apA Try.prog #[22, 22] 22 X (.slice (some ⟨g, 0, none⟩) 0 0) (.slice a1 n c1) = a4 at *
  generalize apC Try.prog #[22, 22] 22 X (.slice (some ⟨g, 0, none⟩) 0 0) (.slice a1 n c1) = c4 at *
  refine ⟨⟨⟨?_, ?_⟩, ?_⟩, ?_, ?_, ?_, by omega⟩
  · exact cell_else _ _ (by omega) (cell_else _ _ (by omega) s1.1.1)
  · exact cell_else _ _ (by omega) (cell_else _ _ (by omega) s1.1.2)
  · exact (s1.2.setCell (p := ⟨hp, 0, none⟩) (Nat.le_of_lt hp2) _).setCell (p := ⟨hp, 1, none⟩) (Nat.le_of_lt hp2) _
  · exact cell_far _ _ (by decide) (World.cell?_setCell_same _ _ _ hv.1)
  · exact World.cell?_setCell_same _ _ _ (cell_far _ _ (by decide) hv.2)
  · exact oz_far (oz_far s4 (fun _ => by omega) _ _) (fun _ => by omega) _ _
/-- a node with its inputs left out -/
def cutV (v : Nv) : Nv := ⟨v.op, none, 0, 0, 0, 0, [], v.ap, v.np, v.cp, v.bp, v.ob, v.p⟩
theorem flatN_cut : ∀ {L : List Nv} {i : Nat} {v : Nv}, L[i]? = some v → flatN (L.set i (cutV v)) = (flatN L).set (i * 3 + 1) (.slice none 0 0)
  | [], i, v, h => by simp at h
  | a :: L, 0, v, h => by
    simp at h
    subst h
    simp [flatN_cons, cutV]
  | a :: L, i + 1, v, h => by
    have h' : L[i]? = some v := by simpa using h
    rw [List.set_cons_succ, flatN_cons, flatN_cons, flatN_cut h', show (i + 1) * 3 + 1 = (i * 3 + 1) + 1 + 1 + 1 by omega]
    simp
theorem cut_less {L : List Nv} {i : Nat} {v : Nv} (hr : roundB (insL L) = false) : roundB (insL (L.set i (cutV v))) = false := by
  refine round_less (by rw [insL_len, insL_len, List.length_set]) (fun j k hh => ?_) hr
  rw [has_iff] at hh ⊢
  unfold inL insL at hh ⊢
  rw [List.getD_eq_getElem?_getD, List.getElem?_map] at hh ⊢
  by_cases e : i = j
  · subst e
    by_cases hi : i < L.length
    · rw [List.getElem?_set_self hi] at hh
      simp [cutV] at hh
    · rw [List.getElem?_eq_none (by rw [List.length_set]; omega)] at hh
      simp at hh
  · rw [List.getElem?_set_ne e] at hh
    exact hh
theorem lg_cut {w : World} {ao : Option Addr} {n c : Nat} {out : Int} {L : List Nv} {hp : Nat} {a4 : Option Addr} {c4 p4 q4 : Nat} {W : World} {b off : Nat} (h : Lg w ao n c out L hp a4 c4 p4 q4 W) (hv : Vn w ao n c b off L) (hn : 0 < n) {i : Nat} {v : Nv} (hi : L[i]? = some v) :
    a4 = some ⟨p4, q4, none⟩ ∧ W.cell? ⟨p4, q4 + i * 3 + 1, none⟩ = some (.slice v.ai v.ni v.ci) ∧ W.frozen? ⟨p4, q4 + i * 3 + 1, none⟩ = false ∧
    Sg w ao n c out (W.setCell ⟨p4, q4 + i * 3 + 1, none⟩ (.slice none 0 0)) ∧ (W.setCell ⟨p4, q4 + i * 3 + 1, none⟩ (.slice none 0 0)).cell? ⟨hp, 0, none⟩ = some (.slice a4 n c4) ∧ (W.setCell ⟨p4, q4 + i * 3 + 1, none⟩ (.slice none 0 0)).cell? ⟨hp, 1, none⟩ = some (.int .i64 out) ∧ Vn (W.setCell ⟨p4, q4 + i * 3 + 1, none⟩ (.slice none 0 0)) a4 n c4 p4 q4 (L.set i (cutV v)) := by
  have hil : i < L.length := (List.getElem?_eq_some_iff.1 hi).1
  have hl := vn_len hv
  have hc : 0 < c4 := by have := h.own.v.le; omega
  have hp4 := (h.own.new hc).1
  have hne := h.ne
  have hz := oz_set h.own (p := i * 3 + 1) (by rw [flatN_len]; omega) (.slice none 0 0)
  rw [← flatN_cut hi, ← Nat.add_assoc] at hz
  have hsg : Sg w ao n c out (W.setCell ⟨p4, q4 + i * 3 + 1, none⟩ (.slice none 0 0)) := ⟨⟨cell_else _ _ (by omega) h.sg.1.1, cell_else _ _ (by omega) h.sg.1.2⟩, h.sg.2.setCell (p := ⟨p4, q4 + i * 3 + 1, none⟩) (by show w.heap.size ≤ p4; omega) _⟩
  have f0 := oz_fz h.own (i := i * 3 + 1) (by omega)
  rw [← Nat.add_assoc] at f0
  have e0 := h.own.v.lies _ _ (flatN_at hi).2.1
  rw [← Nat.add_assoc] at e0
  refine ⟨h.own.v.addr hc, e0, f0, hsg, cell_else _ _ hne.symm h.h0, cell_else _ _ hne.symm h.h1, hz.v, fun u hu => ?_, fun u hu => ?_⟩
  · obtain ⟨j, hj, rfl⟩ := List.getElem_of_mem hu
    rw [List.getElem_set]
    split
    · exact vi_nil _ _
    · exact (hv.i _ (List.getElem_mem _)).below hsg.2
  · obtain ⟨j, hj, rfl⟩ := List.getElem_of_mem hu
    rw [List.getElem_set]
    split
    · exact (hv.p v (List.mem_of_getElem? hi)).below hsg.2
    · exact (hv.p _ (List.getElem_mem _)).below hsg.2
theorem few_cut {n : Nat} {L : List Nv} {i : Nat} {v : Nv} (h : Few n L) (hi : L[i]? = some v) : Few n (L.set i (cutV v)) := by
  refine ⟨h.n, fun u hu => ?_⟩
  obtain ⟨j, hj, rfl⟩ := List.getElem_of_mem hu
  rw [List.getElem_set]
  split
  · exact Nat.zero_le _
  · exact h.i _ (List.getElem_mem _)
set_option maxRecDepth 100000 in
set_option maxHeartbeats 8000000 in
theorem walk (ao : Option Addr) (n c b off : Nat) (L : List Nv) (out at_ : Int) (w : World) (h : Vn w ao n c b off L) (hat : 0 ≤ at_ ∧ at_ ≤ 255) :
    Calls Try.prog 6 #[.agg #[.slice ao n c, .int .i64 out], .int .u8 at_] w fun e w' => e = .returned (.bool true) ∧ Below w.heap.size w w' := by
  have hl := vn_len h
  have hs0 := sg_new w ao n c out 24
  have HS := hid hs0
  have HV := hid h
  clear h hs0
  rcases hfew : fewB L 100 with _ | _
  · have HF := hid hfew
    clear hfew
    go_enter Try.func6, Try.ntmps6
    go_wp2_with (first
      | (go_at_call 8; with_reducible refine Calls.mono (awake_any _) ?_; rintro e w1 ⟨rfl, hb⟩; replace HS := hid (sg_below HS.out hb); obtain ⟨⟨x0, x1⟩, -⟩ := id HS.out; clear hb)
      | (go_at_call 19; with_reducible refine Calls.mono (few_any _ _ _ b off L _ 100 _ (HV.out.below HS.out.2) (by decide)) ?_; rintro e w2 ⟨rfl, hb⟩; replace HS := hid (sg_below HS.out hb); rw [HF.out]; clear hb x0 x1))
    go_ret
    exact ⟨rfl, HS.out.2⟩
  · obtain ⟨hn, hf, -⟩ := few_of hl hfew (by decide)
    have HF := hid (And.intro hfew (And.intro hf (And.intro (few_l hl) hl)))
    clear hfew hf
    by_cases h0 : n = 0
    · subst h0
      go_enter Try.func6, Try.ntmps6
      go_wp2_with (first
        | (go_at_call 8; with_reducible refine Calls.mono (awake_any _) ?_; rintro e w1 ⟨rfl, hb⟩; replace HS := hid (sg_below HS.out hb); obtain ⟨⟨x0, x1⟩, -⟩ := id HS.out; clear hb)
        | (go_at_call 19; with_reducible refine Calls.mono (few_any _ _ _ b off L _ 100 _ (HV.out.below HS.out.2) (by decide)) ?_; rintro e w2 ⟨rfl, hb⟩; replace HS := hid (sg_below HS.out hb); rw [HF.out.1]; clear x0 x1; obtain ⟨⟨x0, x1⟩, -⟩ := id HS.out; clear hb))
      go_ret
      exact ⟨rfl, HS.out.2⟩
    have hnz : ¬ ((n : Int) = 0) := by omega
    obtain rfl := HV.out.z.addr (by have := HV.out.z.le; omega)
    go_enter Try.func6, Try.ntmps6
    go_wp2_with (first
      | (go_at_call 8; with_reducible refine Calls.mono (awake_any _) ?_; rintro e w1 ⟨rfl, hb⟩; replace HS := hid (sg_below HS.out hb); obtain ⟨⟨x0, x1⟩, -⟩ := id HS.out; clear hb)
      | (go_at_call 19; with_reducible refine Calls.mono (few_any _ _ _ b off L _ 100 _ (HV.out.below HS.out.2) (by decide)) ?_; rintro e w2 ⟨rfl, hb⟩; replace HS := hid (sg_below HS.out hb); rw [HF.out.1]; clear x0 x1; obtain ⟨⟨x0, x1⟩, -⟩ := id HS.out; clear hb))
    have k0 : w.heap.size < w2.heap.size := World.block_lt_of_cell? _ _ x0
    have hv2 := HV.out.below HS.out.2
    have bA : Below w2.heap.size w2 (w2.alloc (.cells #[] 36)).drew := ((Below.refl _ _).alloc (Nat.le_refl _) _).drew
    have bB : Below w2.heap.size w2 ((w2.alloc (.cells #[.slice none 0 0, .int .i64 0] 24)).alloc (.cells #[] 36)).drew := (alloc_low ((Below.refl _ _).alloc (Nat.le_refl _) _) _).drew
    have bC : Below w2.heap.size w2 ((w2.alloc (.cells #[] 36)).alloc (.cells #[.slice none 0 0, .int .i64 0] 24)).drew := (alloc_low ((Below.refl _ _).alloc (Nat.le_refl _) _) _).drew
    obtain ⟨pA, qA, hA⟩ := app_nodes (hv2.below bA) (by omega) w2.heap.size
    obtain ⟨pB, qB, hB⟩ := app_nodes (hv2.below bB) (by omega) (w2.heap.size + 1)
    obtain ⟨pC, qC, hC⟩ := app_nodes (hv2.below bC) (by omega) w2.heap.size
    have fA := app_fine0 hA
    have fB := app_fine0 hB
    have fC := app_fine0 hC
    obtain ⟨xA0, xA1⟩ := app_box hA (bx_of x0 x1 bA)
    obtain ⟨xB0, xB1⟩ := app_box hB (bx_of x0 x1 bB)
    obtain ⟨xC0, xC1⟩ := app_box hC (bx_of x0 x1 bC)
    have sA := World.block_lt_of_cell? _ _ xA0
    dsimp only at sA
    have zB : ((w2.alloc (.cells #[.slice none 0 0, .int .i64 0] 24)).alloc (.cells #[] 36)).drew.heap.size = w2.heap.size + 1 + 1 := by simp
    have zC : ((w2.alloc (.cells #[] 36)).alloc (.cells #[.slice none 0 0, .int .i64 0] 24)).drew.heap.size = w2.heap.size + 1 + 1 := by simp
    obtain ⟨hb0, hb1⟩ := app_box hB (hbox_b w2)
    obtain ⟨hc0, hc1⟩ := app_box hC (hbox_c w2)
    have hbf := app_fz hB (k := w2.heap.size) (by rw [zB]; omega) (hbox_bf w2)
    have hcf := app_fz hC (k := w2.heap.size + 1) (by rw [zC]; omega) (hbox_cf w2)
    have HA := hid (And.intro hA (And.intro hB hC))
    clear hA hB hC
    obtain ⟨t, rfl⟩ : ∃ t : Nat, at_ = (t : Int) := ⟨at_.toNat, by omega⟩
    obtain ⟨i, hi⟩ : ∃ i, i = t % n := ⟨_, rfl⟩
    have hin : i < n := by rw [hi]; exact Nat.mod_lt _ (by omega)
    have hiz : (i : Int) < (n : Int) := by omega
    have hm1 : ((t : Int)).tmod (n : Int) = (i : Int) := by rw [hi]; rfl
    have hm2 : ((t : Int)) % (n : Int) = (i : Int) := by rw [hi]; rfl
    have hm3 : IntKind.i64.wrap (t : Int) = (t : Int) := by have := hat.2; simp only [IntKind.wrap_i64]; omega
    have hm4 : IntKind.i64.wrap (i : Int) = (i : Int) := by simp only [IntKind.wrap_i64]; omega
    have hm5 : t % n = i := hi.symm
    clear hi
    obtain ⟨v, hv⟩ : ∃ v, L[i]? = some v := ⟨_, List.getElem?_eq_getElem (by rw [hl]; exact hin)⟩
    go_region
    · have HL := lg_new (by omega) (sg_below HS.out bA) HA.out.1
      clear xA0 xA1 xB0 xB1 xC0 xC1 sA zB zC hb0 hb1 hc0 hc1 hbf hcf fA fB fC HA bA bB bC x0 x1 k0 hv2
      generalize ((apW Try.prog #[22, 22] 22 (w2.alloc (.cells #[] 36)).drew (.slice (some ⟨w2.heap.size, 0, none⟩) 0 0) (.slice (some ⟨b, off, none⟩) n c)).alloc (.cells #[.slice (apA Try.prog #[22, 22] 22 (w2.alloc (.cells #[] 36)).drew (.slice (some ⟨w2.heap.size, 0, none⟩) 0 0) (.slice (some ⟨b, off, none⟩) n c)) n (apC Try.prog #[22, 22] 22 (w2.alloc (.cells #[] 36)).drew (.slice (some ⟨w2.heap.size, 0, none⟩) 0 0) (.slice (some ⟨b, off, none⟩) n c)), .int .i64 out] 24)) = W4 at *
      generalize apA Try.prog #[22, 22] 22 (w2.alloc (.cells #[] 36)).drew (.slice (some ⟨w2.heap.size, 0, none⟩) 0 0) (.slice (some ⟨b, off, none⟩) n c) = a4 at *
      generalize apC Try.prog #[22, 22] 22 (w2.alloc (.cells #[] 36)).drew (.slice (some ⟨w2.heap.size, 0, none⟩) 0 0) (.slice (some ⟨b, off, none⟩) n c) = c4 at *
      generalize (apW Try.prog #[22, 22] 22 (w2.alloc (.cells #[] 36)).drew (.slice (some ⟨w2.heap.size, 0, none⟩) 0 0) (.slice (some ⟨b, off, none⟩) n c)).heap.size = hp at *
      obtain ⟨ha4, e0, e1, sg5, e2, e3, hv5⟩ := lg_cut HL HV.out (by omega) hv
      obtain ⟨⟨x0, x1⟩, -⟩ := HL.sg
      have g0 := HL.h0
      have g1 := HL.h1
      have HL5 := hid (And.intro sg5 (And.intro e2 (And.intro e3 hv5)))
      subst ha4
      clear HL sg5 e2 e3 hv5
      go_wp2
      go_region
      clear e0 e1 x0 x1 g0 g1 hm1 hm2 hm3 hm4 hm5
      have hb5 := (Below.refl (W4.setCell ⟨pA, qA + i * 3 + 1, none⟩ (.slice none 0 0)).heap.size (W4.setCell ⟨pA, qA + i * 3 + 1, none⟩ (.slice none 0 0))).drew
      have HL6 := hid (And.intro (sg_drew HL5.out.1) (And.intro (cell_below hb5 HL5.out.2.1) (And.intro (cell_below hb5 HL5.out.2.2.1) (HL5.out.2.2.2.below hb5))))
      clear HL5 hb5
      generalize (W4.setCell ⟨pA, qA + i * 3 + 1, none⟩ (.slice none 0 0)).drew = W5 at *
      obtain ⟨⟨x0, x1⟩, -⟩ := id HL6.out.1
      rcases hr : roundB (insL L) with _ | _
      · have HR := hid (And.intro hr (cut_less (i := i) (v := v) hr))
        clear hr
        go_wp2_with (first
          | (go_at_call 13; with_reducible refine Calls.mono (round_s HV.out HF.out.2.1 HL6.out.1) ?_; rintro e w6 ⟨rfl, hb⟩; rw [HR.out.1]; have y0 := cell_below hb HL6.out.2.1; have y1 := cell_below hb HL6.out.2.2.1; have H6 := hid (And.intro (sg_below HL6.out.1 hb) (HL6.out.2.2.2.below hb)); clear hb x0 x1 HL6)
          | (go_at_call 13; with_reducible refine Calls.mono (round_any _ _ _ _ _ _ _ _ H6.out.2 (few_cut HF.out.2.1 hv)) ?_; rintro e w7 ⟨rfl, hb⟩; rw [HR.out.2]; have H7 := hid (sg_below H6.out.1 hb); clear hb y0 y1))
        go_ret
        exact ⟨rfl, H7.out.2⟩
      · have HR := hid hr
        clear hr
        go_wp2_with (first
          | (go_at_call 13; with_reducible refine Calls.mono (round_s HV.out HF.out.2.1 HL6.out.1) ?_; rintro e w6 ⟨rfl, hb⟩; rw [HR.out]; have H7 := hid (sg_below HL6.out.1 hb); clear hb x0 x1))
        go_ret
        exact ⟨rfl, H7.out.2⟩
    · have HL := lg_set (hp := w2.heap.size + 1) (by omega) (sg_below HS.out bC) HA.out.2.2 ⟨hc0, hc1⟩ (by rw [zC]; omega) (by omega)
      clear xA0 xA1 xB0 xB1 xC0 xC1 sA zB zC hb0 hb1 hc0 hc1 hbf hcf fA fB fC HA bA bB bC x0 x1 k0 hv2
      generalize (((apW Try.prog #[22, 22] 22 ((w2.alloc (.cells #[] 36)).alloc (.cells #[.slice none 0 0, .int .i64 0] 24)).drew (.slice (some ⟨w2.heap.size, 0, none⟩) 0 0) (.slice (some ⟨b, off, none⟩) n c)).setCell ⟨w2.heap.size + 1, 0, none⟩ (.slice (apA Try.prog #[22, 22] 22 ((w2.alloc (.cells #[] 36)).alloc (.cells #[.slice none 0 0, .int .i64 0] 24)).drew (.slice (some ⟨w2.heap.size, 0, none⟩) 0 0) (.slice (some ⟨b, off, none⟩) n c)) n (apC Try.prog #[22, 22] 22 ((w2.alloc (.cells #[] 36)).alloc (.cells #[.slice none 0 0, .int .i64 0] 24)).drew (.slice (some ⟨w2.heap.size, 0, none⟩) 0 0) (.slice (some ⟨b, off, none⟩) n c)))).setCell ⟨w2.heap.size + 1, 1, none⟩ (.int .i64 out)) = W4 at *
      generalize apA Try.prog #[22, 22] 22 ((w2.alloc (.cells #[] 36)).alloc (.cells #[.slice none 0 0, .int .i64 0] 24)).drew (.slice (some ⟨w2.heap.size, 0, none⟩) 0 0) (.slice (some ⟨b, off, none⟩) n c) = a4 at *
      generalize apC Try.prog #[22, 22] 22 ((w2.alloc (.cells #[] 36)).alloc (.cells #[.slice none 0 0, .int .i64 0] 24)).drew (.slice (some ⟨w2.heap.size, 0, none⟩) 0 0) (.slice (some ⟨b, off, none⟩) n c) = c4 at *
      generalize w2.heap.size + 1 = hp at *
      obtain ⟨ha4, e0, e1, sg5, e2, e3, hv5⟩ := lg_cut HL HV.out (by omega) hv
      obtain ⟨⟨x0, x1⟩, -⟩ := HL.sg
      have g0 := HL.h0
      have g1 := HL.h1
      have HL5 := hid (And.intro sg5 (And.intro e2 (And.intro e3 hv5)))
      subst ha4
      clear HL sg5 e2 e3 hv5
      go_wp2
      go_region
      clear e0 e1 x0 x1 g0 g1 hm1 hm2 hm3 hm4 hm5
      have hb5 := (Below.refl (W4.setCell ⟨pC, qC + i * 3 + 1, none⟩ (.slice none 0 0)).heap.size (W4.setCell ⟨pC, qC + i * 3 + 1, none⟩ (.slice none 0 0))).drew
      have HL6 := hid (And.intro (sg_drew HL5.out.1) (And.intro (cell_below hb5 HL5.out.2.1) (And.intro (cell_below hb5 HL5.out.2.2.1) (HL5.out.2.2.2.below hb5))))
      clear HL5 hb5
      generalize (W4.setCell ⟨pC, qC + i * 3 + 1, none⟩ (.slice none 0 0)).drew = W5 at *
      obtain ⟨⟨x0, x1⟩, -⟩ := id HL6.out.1
      rcases hr : roundB (insL L) with _ | _
      · have HR := hid (And.intro hr (cut_less (i := i) (v := v) hr))
        clear hr
        go_wp2_with (first
          | (go_at_call 13; with_reducible refine Calls.mono (round_s HV.out HF.out.2.1 HL6.out.1) ?_; rintro e w6 ⟨rfl, hb⟩; rw [HR.out.1]; have y0 := cell_below hb HL6.out.2.1; have y1 := cell_below hb HL6.out.2.2.1; have H6 := hid (And.intro (sg_below HL6.out.1 hb) (HL6.out.2.2.2.below hb)); clear hb x0 x1 HL6)
          | (go_at_call 13; with_reducible refine Calls.mono (round_any _ _ _ _ _ _ _ _ H6.out.2 (few_cut HF.out.2.1 hv)) ?_; rintro e w7 ⟨rfl, hb⟩; rw [HR.out.2]; have H7 := hid (sg_below H6.out.1 hb); clear hb y0 y1))
        go_ret
        exact ⟨rfl, H7.out.2⟩
      · have HR := hid hr
        clear hr
        go_wp2_with (first
          | (go_at_call 13; with_reducible refine Calls.mono (round_s HV.out HF.out.2.1 HL6.out.1) ?_; rintro e w6 ⟨rfl, hb⟩; rw [HR.out]; have H7 := hid (sg_below HL6.out.1 hb); clear hb x0 x1))
        go_ret
        exact ⟨rfl, H7.out.2⟩
    · have HL := lg_set (hp := w2.heap.size) (by omega) (sg_below HS.out bB) HA.out.2.1 ⟨hb0, hb1⟩ (by rw [zB]; omega) (by omega)
      clear xA0 xA1 xB0 xB1 xC0 xC1 sA zB zC hb0 hb1 hc0 hc1 hbf hcf fA fB fC HA bA bB bC x0 x1 k0 hv2
      generalize (((apW Try.prog #[22, 22] 22 ((w2.alloc (.cells #[.slice none 0 0, .int .i64 0] 24)).alloc (.cells #[] 36)).drew (.slice (some ⟨w2.heap.size + 1, 0, none⟩) 0 0) (.slice (some ⟨b, off, none⟩) n c)).setCell ⟨w2.heap.size, 0, none⟩ (.slice (apA Try.prog #[22, 22] 22 ((w2.alloc (.cells #[.slice none 0 0, .int .i64 0] 24)).alloc (.cells #[] 36)).drew (.slice (some ⟨w2.heap.size + 1, 0, none⟩) 0 0) (.slice (some ⟨b, off, none⟩) n c)) n (apC Try.prog #[22, 22] 22 ((w2.alloc (.cells #[.slice none 0 0, .int .i64 0] 24)).alloc (.cells #[] 36)).drew (.slice (some ⟨w2.heap.size + 1, 0, none⟩) 0 0) (.slice (some ⟨b, off, none⟩) n c)))).setCell ⟨w2.heap.size, 1, none⟩ (.int .i64 out)) = W4 at *
      generalize apA Try.prog #[22, 22] 22 ((w2.alloc (.cells #[.slice none 0 0, .int .i64 0] 24)).alloc (.cells #[] 36)).drew (.slice (some ⟨w2.heap.size + 1, 0, none⟩) 0 0) (.slice (some ⟨b, off, none⟩) n c) = a4 at *
      generalize apC Try.prog #[22, 22] 22 ((w2.alloc (.cells #[.slice none 0 0, .int .i64 0] 24)).alloc (.cells #[] 36)).drew (.slice (some ⟨w2.heap.size + 1, 0, none⟩) 0 0) (.slice (some ⟨b, off, none⟩) n c) = c4 at *
      generalize w2.heap.size = hp at *
      obtain ⟨ha4, e0, e1, sg5, e2, e3, hv5⟩ := lg_cut HL HV.out (by omega) hv
      obtain ⟨⟨x0, x1⟩, -⟩ := HL.sg
      have g0 := HL.h0
      have g1 := HL.h1
      have HL5 := hid (And.intro sg5 (And.intro e2 (And.intro e3 hv5)))
      subst ha4
      clear HL sg5 e2 e3 hv5
      go_wp2
      go_region
      clear e0 e1 x0 x1 g0 g1 hm1 hm2 hm3 hm4 hm5
      have hb5 := (Below.refl (W4.setCell ⟨pB, qB + i * 3 + 1, none⟩ (.slice none 0 0)).heap.size (W4.setCell ⟨pB, qB + i * 3 + 1, none⟩ (.slice none 0 0))).drew
      have HL6 := hid (And.intro (sg_drew HL5.out.1) (And.intro (cell_below hb5 HL5.out.2.1) (And.intro (cell_below hb5 HL5.out.2.2.1) (HL5.out.2.2.2.below hb5))))
      clear HL5 hb5
      generalize (W4.setCell ⟨pB, qB + i * 3 + 1, none⟩ (.slice none 0 0)).drew = W5 at *
      obtain ⟨⟨x0, x1⟩, -⟩ := id HL6.out.1
      rcases hr : roundB (insL L) with _ | _
      · have HR := hid (And.intro hr (cut_less (i := i) (v := v) hr))
        clear hr
        go_wp2_with (first
          | (go_at_call 13; with_reducible refine Calls.mono (round_s HV.out HF.out.2.1 HL6.out.1) ?_; rintro e w6 ⟨rfl, hb⟩; rw [HR.out.1]; have y0 := cell_below hb HL6.out.2.1; have y1 := cell_below hb HL6.out.2.2.1; have H6 := hid (And.intro (sg_below HL6.out.1 hb) (HL6.out.2.2.2.below hb)); clear hb x0 x1 HL6)
          | (go_at_call 13; with_reducible refine Calls.mono (round_any _ _ _ _ _ _ _ _ H6.out.2 (few_cut HF.out.2.1 hv)) ?_; rintro e w7 ⟨rfl, hb⟩; rw [HR.out.2]; have H7 := hid (sg_below H6.out.1 hb); clear hb y0 y1))
        go_ret
        exact ⟨rfl, H7.out.2⟩
      · have HR := hid hr
        clear hr
        go_wp2_with (first
          | (go_at_call 13; with_reducible refine Calls.mono (round_s HV.out HF.out.2.1 HL6.out.1) ?_; rintro e w6 ⟨rfl, hb⟩; rw [HR.out]; have H7 := hid (sg_below HL6.out.1 hb); clear hb x0 x1))
        go_ret
        exact ⟨rfl, H7.out.2⟩

theorem own : ownKnob Try.prog.godebug = none := by kernel_rfl

set_option maxHeartbeats 400000 in
set_option maxRecDepth 100000 in
theorem lifted (os : Os) (started : os.Started) (H : Type) (enc : TypeId × Value → H) :
    ReturnsInHanded {} Try.checked os 6 .any (Rows.orderLessSpec.pre6 enc Try.prog Try.f6 Rows.orderLessRow.domain false) (Rows.orderLessSpec.post enc Try.prog Try.f6 false true false false) := by
  refine returnsInHanded_of_change (C := Try.checked) own started (by kernel_rfl) Try.func6
    (ChangeSpec.witness6 (enc := enc) (C := Try.checked) false ⟨#[], #[.agg #[.slice none 0 0, .int .i64 0], .int .u8 0], []⟩ 8 (by kernel_rfl) (by kernel_rfl) (by kernel_rfl) (by kernel_rfl)) ?_
  intro W base args ds gs before hval0 hW hcnd _
  have hval : ∀ (j : Nat) t v, Try.f6.params[j]? = some t → args[j]? = some v → Value.okWide Try.prog W .any base t v := hval0
  have hW' := hW
  obtain ⟨p, q, hA0, hV, rfl, hfz, hnd⟩ := hW
  have hA : DataW.TrodAll enc Try.prog W 0 (fun _ => true) true Try.f6.params.toList args.toList ds p := hA0
  rw [Try.params6] at hA hval
  obtain ⟨v0, vs0, d0, ds0, p0, q0, hargs, rfl, rfl, h0, r0⟩ := trodAll_cons hA
  obtain ⟨v1, vs1, d1, ds1, p1, q1, rfl, rfl, rfl, h1, r1⟩ := trodAll_cons r0
  obtain ⟨rfl, rfl, rfl⟩ := trodAll_nil r1
  obtain rfl : args = #[v0, v1] := by cases args; simp_all
  obtain ⟨rfl, rfl⟩ := trodVars_none hV
  obtain ⟨ao0, n0, c0, b0, off0, L0, out0, rfl, hv0⟩ := open_graph (hval 0 24 v0 rfl rfl) h0
  obtain ⟨k1, rfl, rfl, rfl, u1⟩ := open_int Try.underlying5 (hval 1 5 v1 rfl rfl) h1
  clear hA0 hval0
  simp only [List.append_nil] at hW'
  have hlt : ∀ x ∈ p0, x.block < W.heap.size := fun x hx => by simpa using hW'.lt x (by simpa using hx)
  refine (walk ao0 n0 c0 b0 off0 L0 out0 k1 W hv0 (bounds_u8 u1)).mono fun e W' ⟨he, hg⟩ => ?_
  subst he
  have t0 := Below.trod laidOut (by kernel_rfl) (of_decide_eq_true (by kernel_rfl)) h0 hg (fun x hx => hlt x hx)
  exact ⟨_, rfl, ⟨_, _, _, _, _, _, hW', (trodAll_cons_mk (shut_bool Try.underlying4 _) trodAll_mk0), (trodAll_cons_mk t0 (trodAll_cons_mk (shut_int Try.underlying5 u1) trodAll_mk0)), rfl, hg.frame _, fun h => by cases h⟩⟩

theorem over : Rows.orderLessRow.holds Try.pinned (OpenSpec.ofChange Rows.orderLessSpec) :=
  OpenClaim.holds_of_wide 6 Try.f6 rfl rfl rfl rfl rfl rfl rfl ⟨rfl, rfl, rfl, rfl, rfl⟩ rfl rfl rfl rfl rfl (by kernel_rfl) Try.func6 (by kernel_rfl)
    (of_decide_eq_true (by kernel_rfl)) (by unfold Func.isWrapper; first | (rw [if_pos (by decide +kernel)]; kernel_rfl) | (rw [if_neg (by decide +kernel)]; exact ⟨rfl, rfl⟩))
    (fun os started H enc _ => lifted os started H enc)

theorem proved : Rows.OrderLessSaid := over
#print axioms proved
end Go.Proofs.Ytccbgekijnkhpaa.orderLess
