/- A filter with a node more, as it is made, in whichever order: what stands. -/
import Derived.Test.YtleclkjinkbebaaMoreNum
import Derived.Test.YtleclkjinkbebaaKeepS
namespace Go.Proofs.Ytleclkjinkbebaa
open Num Go.RowKit
set_option linter.unusedVariables false
set_option linter.unusedSimpArgs false

/-- five cells that stand: a filter's two, a node's three -/
abbrev S5m (k k2 : Nat) (u v x y z : Value) (w' : World) : Prop := w'.cell? ⟨k, 0, none⟩ = some u ∧ w'.cell? ⟨k, 1, none⟩ = some v ∧ w'.cell? ⟨k2, 0, none⟩ = some x ∧ w'.cell? ⟨k2, 1, none⟩ = some y ∧ w'.cell? ⟨k2, 2, none⟩ = some z
theorem sm_low {k k2 : Nat} {u v x y z : Value} {w w' : World} (h : S5m k k2 u v x y z w) (hb : Below w.heap.size w w') : S5m k k2 u v x y z w' := ⟨cell_below hb h.1, cell_below hb h.2.1, cell_below hb h.2.2.1, cell_below hb h.2.2.2.1, cell_below hb h.2.2.2.2⟩

/-- how far it has come: the nodes copied (3), the node in a list of its own (5), both put behind one another (6), the new filter's block (10) -/
structure Md (wA : World) (L : List Nv) (u : Nv) (n : Nat) (f3 f5 f6 f10 : Bool) (a3 : Option Addr) (c3 b3 o3 g : Nat) (a6 : Option Addr) (c6 b6 o6 k : Nat) (W : World) : Prop where
  low : Below wA.heap.size wA W
  h3 : f3 = true → f6 = false → Oz 3 wA.heap.size W a3 n c3 b3 o3 (flatN L)
  h5 : f5 = true → f6 = false → Vz 3 W (some ⟨g, 0, none⟩) 1 1 g 0 (cellsN u)
  h6 : f6 = true → Oz 3 wA.heap.size W a6 (n + 1) c6 b6 o6 (flatN L ++ cellsN u)
  h10 : f10 = true → (wA.heap.size ≤ k ∧ k < W.heap.size) ∧ (W.cell? ⟨k, 0, none⟩ = some (.slice none 0 0) ∧ W.cell? ⟨k, 1, none⟩ = some (.int .i64 0)) ∧ (W.frozen? ⟨k, 0, none⟩ = false ∧ W.frozen? ⟨k, 1, none⟩ = false) ∧ (f3 = true → f6 = false → 0 < c3 → k ≠ b3) ∧ (f6 = true → 0 < c6 → k ≠ b6)
section
variable {wA : World} {L : List Nv} {u : Nv} {n : Nat} {f3 f5 f6 f10 : Bool} {a3 : Option Addr} {c3 b3 o3 g : Nat} {a6 : Option Addr} {c6 b6 o6 k : Nat} {W W' : World}
theorem md_start (wA : World) (L : List Nv) (u : Nv) (n : Nat) : Md wA L u n false false false false none 0 0 0 0 none 0 0 0 0 wA.drew :=
  ⟨(Below.refl _ _).drew, fun h => (by cases h), fun h => (by cases h), fun h => (by cases h), fun h => (by cases h)⟩
theorem md_below (h : Md wA L u n f3 f5 f6 f10 a3 c3 b3 o3 g a6 c6 b6 o6 k W) (hb : Below W.heap.size W W') : Md wA L u n f3 f5 f6 f10 a3 c3 b3 o3 g a6 c6 b6 o6 k W' :=
  ⟨via (w := wA) h.low hb, fun h1 h2 => (h.h3 h1 h2).below hb, fun h1 h2 => (h.h5 h1 h2).below hb, fun h1 => (h.h6 h1).below hb, fun h1 => by
    obtain ⟨⟨k1, k2⟩, ⟨k3, k4⟩, ⟨k5, k6⟩, k7, k8⟩ := h.h10 h1
    exact ⟨⟨k1, Nat.lt_of_lt_of_le k2 hb.size⟩, ⟨cell_below hb k3, cell_below hb k4⟩, ⟨(hb.frozen (p := ⟨k, 0, none⟩) k2).trans k5, (hb.frozen (p := ⟨k, 1, none⟩) k2).trans k6⟩, k7, k8⟩⟩
theorem md_b0 (o : Obj) : Below W.drew.heap.size W.drew (W.alloc o).drew := ((Below.refl _ W.drew).alloc (Nat.le_refl _) o)
theorem md_b1 (o : Obj) : Below W.heap.size W (W.alloc o) := (Below.refl _ W).alloc (Nat.le_refl _) o
/-- the node in a list of its own -/
theorem md_5 (h : Md wA L u n f3 false f6 f10 a3 c3 b3 o3 g a6 c6 b6 o6 k W) {g' : Nat} (hg : g' = W.heap.size) (t : TypeId) : Md wA L u n f3 true f6 f10 a3 c3 b3 o3 g' a6 c6 b6 o6 k (W.alloc (.cells #[.int .i64 u.op, .slice u.ai u.ni u.ci, .slice u.ap u.np u.cp] t)) := by
  have h' := md_below h (md_b1 (.cells #[.int .i64 u.op, .slice u.ai u.ni u.ci, .slice u.ap u.np u.cp] t))
  subst hg
  exact ⟨h'.low, h'.h3, fun _ _ => (oz_news (sz := 3) (lo := 0) (w := W) (Nat.zero_le _) (cellsN u) 1 rfl (by decide) t).v, h'.h6, h'.h10⟩
/-- the new filter's block -/
theorem md_10 (h : Md wA L u n f3 f5 f6 false a3 c3 b3 o3 g a6 c6 b6 o6 k W) {k' : Nat} (hk : k' = W.heap.size) (t : TypeId) : Md wA L u n f3 f5 f6 true a3 c3 b3 o3 g a6 c6 b6 o6 k' (W.alloc (.cells #[.slice none 0 0, .int .i64 0] t)) := by
  have h' := md_below h (md_b1 (.cells #[.slice none 0 0, .int .i64 0] t))
  subst hk
  refine ⟨h'.low, h'.h3, h'.h5, h'.h6, fun _ => ⟨⟨h.low.size, by simp⟩, ⟨World.cell?_alloc_new W _ _ 0, World.cell?_alloc_new W _ _ 1⟩, ⟨World.frozen?_alloc_new W _ _ 0, World.frozen?_alloc_new W _ _ 1⟩, fun h1 h2 hc => ?_, fun h1 hc => ?_⟩⟩
  · have := ((h.h3 h1 h2).new hc).2
    omega
  · have := ((h.h6 h1).new hc).2
    omega
theorem md_drew (h : Md wA L u n f3 f5 f6 f10 a3 c3 b3 o3 g a6 c6 b6 o6 k W) : Md wA L u n f3 f5 f6 f10 a3 c3 b3 o3 g a6 c6 b6 o6 k W.drew := md_below h (Below.refl _ _).drew
theorem md_undrew (h : Md wA L u n f3 f5 f6 f10 a3 c3 b3 o3 g a6 c6 b6 o6 k W.drew) : Md wA L u n f3 f5 f6 f10 a3 c3 b3 o3 g a6 c6 b6 o6 k W :=
  ⟨⟨h.low.os, h.low.tape, h.low.output, h.low.size, h.low.block⟩, fun h1 h2 => ⟨⟨(h.h3 h1 h2).v.len, (h.h3 h1 h2).v.le, (h.h3 h1 h2).v.max, (h.h3 h1 h2).v.addr, (h.h3 h1 h2).v.lies⟩, (h.h3 h1 h2).new, (h.h3 h1 h2).room⟩, fun h1 h2 => ⟨(h.h5 h1 h2).len, (h.h5 h1 h2).le, (h.h5 h1 h2).max, (h.h5 h1 h2).addr, (h.h5 h1 h2).lies⟩, fun h1 => ⟨⟨(h.h6 h1).v.len, (h.h6 h1).v.le, (h.h6 h1).v.max, (h.h6 h1).v.addr, (h.h6 h1).v.lies⟩, (h.h6 h1).new, (h.h6 h1).room⟩, h.h10⟩
theorem md_5d (h : Md wA L u n f3 false f6 f10 a3 c3 b3 o3 g a6 c6 b6 o6 k W.drew) {g' : Nat} (hg : g' = W.heap.size) (t : TypeId) : Md wA L u n f3 true f6 f10 a3 c3 b3 o3 g' a6 c6 b6 o6 k (W.alloc (.cells #[.int .i64 u.op, .slice u.ai u.ni u.ci, .slice u.ap u.np u.cp] t)).drew := md_drew (md_5 (md_undrew h) hg t)
theorem md_10d (h : Md wA L u n f3 f5 f6 false a3 c3 b3 o3 g a6 c6 b6 o6 k W.drew) {k' : Nat} (hk : k' = W.heap.size) (t : TypeId) : Md wA L u n f3 f5 f6 true a3 c3 b3 o3 g a6 c6 b6 o6 k' (W.alloc (.cells #[.slice none 0 0, .int .i64 0] t)).drew := md_drew (md_10 (md_undrew h) hk t)
/-- the nodes are copied behind none -/
theorem md_app3 (h : Md wA L u n f3 f5 f6 f10 a3 c3 b3 o3 g a6 c6 b6 o6 k W) {ao : Option Addr} {c b off : Nat} (hv : Vz 3 wA ao n c b off (flatN L)) (hn : n ≤ 1000) (e : Nat) :
    ∃ b' off', App 3 W.heap.size #[22, 22] 22 W (some ⟨e, 0, none⟩) 0 0 0 [] (.slice ao n c) n (flatN L) b' off' :=
  app_own (oz_nil 3 W.heap.size W (some ⟨e, 0, none⟩)) (Nat.le_refl _) 22 22 22 31 _ 56 Try.underlying22 info31 rfl _ n (flatN L) (src_of (hv.below h.low) (by decide) Try.underlying22 (one_flatN L)) (by simp only [maxLen]; omega) (by omega)
theorem md_fine3 {e c b' off' : Nat} {ao : Option Addr} {cs : List Value} (h : App 3 W.heap.size #[22, 22] 22 W (some ⟨e, 0, none⟩) 0 0 0 [] (.slice ao n c) n cs b' off') : Fine Try.prog #[22, 22] 22 W (.slice (some ⟨e, 0, none⟩) 0 0) (.slice ao n c) n := by
  have := h.fine
  rw [Nat.zero_add] at this
  exact this
theorem md_3 (h : Md wA L u n false f5 false f10 a3 c3 b3 o3 g a6 c6 b6 o6 k W) {e c b' off' : Nat} {ao : Option Addr} (hA : App 3 W.heap.size #[22, 22] 22 W (some ⟨e, 0, none⟩) 0 0 0 [] (.slice ao n c) n (flatN L) b' off') :
    Md wA L u n true f5 false f10 (apA Try.prog #[22, 22] 22 W (.slice (some ⟨e, 0, none⟩) 0 0) (.slice ao n c)) (apC Try.prog #[22, 22] 22 W (.slice (some ⟨e, 0, none⟩) 0 0) (.slice ao n c)) b' off' g a6 c6 b6 o6 k (apW Try.prog #[22, 22] 22 W (.slice (some ⟨e, 0, none⟩) 0 0) (.slice ao n c)) := by
  have h' := md_below h hA.below
  have ho := hA.own
  rw [Nat.zero_add, List.nil_append] at ho
  refine ⟨h'.low, fun _ _ => ho.mono h.low.size, h'.h5, fun hc => (by cases hc), fun hf => ?_⟩
  obtain ⟨k1, k3, k5, -, -⟩ := h'.h10 hf
  refine ⟨k1, k3, k5, fun _ _ hc => ?_, fun hc => (by cases hc)⟩
  have e1 := (ho.new hc).1
  have e2 := (h.h10 hf).1.2
  omega
/-- both behind one another -/
theorem md_app6 (h : Md wA L u n true true false f10 a3 c3 b3 o3 g a6 c6 b6 o6 k W) (hn : n ≤ 1000) :
    ∃ b' off', App 3 wA.heap.size #[22, 22] 22 W a3 n c3 b3 (flatN L) (.slice (some ⟨g, 0, none⟩) 1 1) 1 (cellsN u) b' off' :=
  app_own (h.h3 rfl rfl) h.low.size 22 22 22 31 _ 56 Try.underlying22 info31 rfl _ 1 (cellsN u) (src_of (h.h5 rfl rfl) (by decide) Try.underlying22 (fun v hv => one_flatN [u] v (by unfold flatN; simp; exact hv))) (by simp only [maxLen]; omega) (by omega)
theorem md_6 (h : Md wA L u n true true false f10 a3 c3 b3 o3 g a6 c6 b6 o6 k W) {b' off' : Nat} (hA : App 3 wA.heap.size #[22, 22] 22 W a3 n c3 b3 (flatN L) (.slice (some ⟨g, 0, none⟩) 1 1) 1 (cellsN u) b' off') :
    Md wA L u n true true true f10 a3 c3 b3 o3 g (apA Try.prog #[22, 22] 22 W (.slice a3 n c3) (.slice (some ⟨g, 0, none⟩) 1 1)) (apC Try.prog #[22, 22] 22 W (.slice a3 n c3) (.slice (some ⟨g, 0, none⟩) 1 1)) b' off' k (apW Try.prog #[22, 22] 22 W (.slice a3 n c3) (.slice (some ⟨g, 0, none⟩) 1 1)) := by
  refine ⟨h.low.trans hA.below, fun _ hc => (by cases hc), fun _ hc => (by cases hc), fun _ => hA.own, fun hf => ?_⟩
  obtain ⟨⟨k1, k2⟩, ⟨k3, k4⟩, ⟨k5, k6⟩, k7, -⟩ := h.h10 hf
  have q0 := hA.cell k2 (fun hc => k7 rfl rfl hc) 0
  have q1 := hA.cell k2 (fun hc => k7 rfl rfl hc) 1
  refine ⟨⟨k1, Nat.lt_of_lt_of_le k2 hA.below.size⟩, ⟨q0.1.trans k3, q1.1.trans k4⟩, ⟨q0.2.trans k5, q1.2.trans k6⟩, fun _ hc => (by cases hc), fun _ hc => ?_⟩
  rcases hA.place hc with ⟨h1, h2⟩ | h1
  · rw [h2]; exact k7 rfl rfl h1
  · omega
/-- what is made -/
structure Me (wA : World) (L : List Nv) (u : Nv) (n : Nat) (out : Int) (k : Nat) (a6 : Option Addr) (c6 b6 o6 : Nat) (W : World) : Prop where
  low : Below wA.heap.size wA W
  vn : Vn W a6 (n + 1) c6 b6 o6 (L ++ [u])
  c0 : W.cell? ⟨k, 0, none⟩ = some (.slice a6 (n + 1) c6)
  c1 : W.cell? ⟨k, 1, none⟩ = some (.int .i64 out)
theorem me_vn {ao : Option Addr} {c b off : Nat} (hL : Vn wA ao n c b off L) (hi : Vi wA u.ai u.ni u.ci u.bi u.oi u.l) (hp : Vi wA u.ap u.np u.cp u.bp u.ob u.p) (hlow : Below wA.heap.size wA W) (hz : Vz 3 W a6 (n + 1) c6 b6 o6 (flatN L ++ cellsN u)) : Vn W a6 (n + 1) c6 b6 o6 (L ++ [u]) := by
  refine ⟨by rw [flatN_app]; exact hz, fun v hv => ?_, fun v hv => ?_⟩
  · rcases List.mem_append.1 hv with hv | hv
    · exact (hL.i v hv).below hlow
    · rw [List.mem_singleton] at hv
      subst hv; exact hi.below hlow
  · rcases List.mem_append.1 hv with hv | hv
    · exact (hL.p v hv).below hlow
    · rw [List.mem_singleton] at hv
      subst hv; exact hp.below hlow
theorem me_store {ao : Option Addr} {c b off : Nat} (hL : Vn wA ao n c b off L) (hi : Vi wA u.ai u.ni u.ci u.bi u.oi u.l) (hp : Vi wA u.ap u.np u.cp u.bp u.ob u.p) (h : Md wA L u n f3 f5 true true a3 c3 b3 o3 g a6 c6 b6 o6 k W) (out : Int) :
    Me wA L u n out k a6 c6 b6 o6 ((W.setCell ⟨k, 0, none⟩ (.slice a6 (n + 1) c6)).setCell ⟨k, 1, none⟩ (.int .i64 out)) := by
  obtain ⟨⟨k1, k2⟩, ⟨k3, k4⟩, -, -, k8⟩ := h.h10 rfl
  have hbw : But k W ((W.setCell ⟨k, 0, none⟩ (.slice a6 (n + 1) c6)).setCell ⟨k, 1, none⟩ (.int .i64 out)) := but_cells k 0 [.slice a6 (n + 1) c6, .int .i64 out] W
  have hlow : Below wA.heap.size wA ((W.setCell ⟨k, 0, none⟩ (.slice a6 (n + 1) c6)).setCell ⟨k, 1, none⟩ (.int .i64 out)) := h.low.trans (hbw.low k1 h.low.size)
  have ho := h.h6 rfl
  have hc6 : 0 < c6 := by have := ho.v.le; omega
  refine ⟨hlow, me_vn hL hi hp hlow (ho.v.but hbw (k8 rfl hc6).symm), ?_, ?_⟩
  · rw [World.cell?_setCell_other _ _ _ _ (by simp)]
    exact World.cell?_setCell_same _ _ _ k3
  · exact World.cell?_setCell_same _ _ _ ((World.cell?_setCell_other _ _ _ _ (by simp)).trans k4)
theorem me_fold {ao : Option Addr} {c b off : Nat} (hL : Vn wA ao n c b off L) (hi : Vi wA u.ai u.ni u.ci u.bi u.oi u.l) (hp : Vi wA u.ap u.np u.cp u.bp u.ob u.p) (h : Md wA L u n f3 f5 true f10 a3 c3 b3 o3 g a6 c6 b6 o6 k W) (out : Int) (t : TypeId) :
    Me wA L u n out W.heap.size a6 c6 b6 o6 (W.alloc (.cells #[.slice a6 (n + 1) c6, .int .i64 out] t)) := by
  have hb := md_b1 (W := W) (.cells #[.slice a6 (n + 1) c6, .int .i64 out] t)
  have hlow := via (w := wA) h.low hb
  exact ⟨hlow, me_vn hL hi hp hlow ((h.h6 rfl).v.below hb), World.cell?_alloc_new W _ _ 0, World.cell?_alloc_new W _ _ 1⟩
end
end Go.Proofs.Ytleclkjinkbebaa
