/- A filter that is copied node by node; two filters that are alike; a drawn region whose last operation writes what its loads read. -/
import Derived.Test.YtamojciiacmjaaaDoorLawA
import Derived.Deep.RegionHeld
namespace Go.Proofs.YtamojciiacmjaaaDoor.kp
open Num Go.RowKit
set_option linter.unusedVariables false
set_option linter.unusedSimpArgs false

/-- five cells that stand: two filters' nodes, and a node's three -/
abbrev S5 (k kp b q : Nat) (u v x y z : Value) (w' : World) : Prop := w'.cell? ⟨k, 0, none⟩ = some u ∧ w'.cell? ⟨kp, 0, none⟩ = some v ∧ w'.cell? ⟨b, q, none⟩ = some x ∧ w'.cell? ⟨b, q + 1, none⟩ = some y ∧ w'.cell? ⟨b, q + 2, none⟩ = some z
section
variable {k kp b q : Nat} {u v x y z : Value} {w w' : World}
theorem s5_drew (h : S5 k kp b q u v x y z w) : S5 k kp b q u v x y z w.drew := h
theorem s5_below (h : S5 k kp b q u v x y z w) (hb : Below w.heap.size w w') : S5 k kp b q u v x y z w' := ⟨cell_below hb h.1, cell_below hb h.2.1, cell_below hb h.2.2.1, cell_below hb h.2.2.2.1, cell_below hb h.2.2.2.2⟩
theorem s5_alloc {o : Obj} (h : S5 k kp b q u v x y z w) : S5 k kp b q u v x y z (w.alloc o) := s5_below h ((Below.refl _ _).alloc (Nat.le_refl _) _)
theorem s5_low {B : Nat} (h : S5 k kp b q u v x y z w) (hb : Below B w w') (h1 : k < B) (h2 : kp < B) (h3 : b < B) : S5 k kp b q u v x y z w' :=
  ⟨(World.cell?_of_block (a := ⟨k, 0, none⟩) (hb.block k h1)).trans h.1, (World.cell?_of_block (a := ⟨kp, 0, none⟩) (hb.block kp h2)).trans h.2.1, (World.cell?_of_block (a := ⟨b, q, none⟩) (hb.block b h3)).trans h.2.2.1, (World.cell?_of_block (a := ⟨b, q + 1, none⟩) (hb.block b h3)).trans h.2.2.2.1, (World.cell?_of_block (a := ⟨b, q + 2, none⟩) (hb.block b h3)).trans h.2.2.2.2⟩
end

theorem info24 : (Tryd.prog.info? 24).map (fun i => (i.zero, i.size, i.bytes)) = some (some (.agg #[.int .i64 0, .slice none 0 0, .slice none 0 0]), 3, 56) := by kernel_rfl
theorem one_flatN (L : List Nv) : ∀ v ∈ flatN L, v.oneCell' = true := by
  intro v hv
  unfold flatN at hv
  obtain ⟨r, -, hr⟩ := List.mem_flatMap.1 hv
  simp only [cellsN, List.mem_cons, List.not_mem_nil, or_false] at hr
  rcases hr with rfl | rfl | rfl <;> rfl
theorem flatN_app (L : List Nv) (v : Nv) : flatN (L ++ [v]) = flatN L ++ cellsN v := by unfold flatN; rw [List.flatMap_append]; simp
/-- what a node is, wherever it lies -/
def keyV (v : Nv) : Int × List Int × List Int := (v.op, v.l, v.p)
/-- nodes of one's own, their lists in other blocks -/
structure Nw (B : Nat) (w : World) (ao : Option Addr) (n c g off : Nat) (M : List Nv) : Prop where
  z : Oz 3 B w ao n c g off (flatN M)
  i : ∀ v, v ∈ M → Oi B w v.ai v.ni v.ci v.bi v.oi v.l
  p : ∀ v, v ∈ M → Oi B w v.ap v.np v.cp v.bp v.ob v.p
  ni : ∀ v, v ∈ M → 0 < v.ci → v.bi ≠ g
  np : ∀ v, v ∈ M → 0 < v.cp → v.bp ≠ g
theorem nw_nil (B : Nat) (w : World) (ao : Option Addr) : Nw B w ao 0 0 0 0 [] := ⟨oz_nil 3 B w ao, fun v hv => (by cases hv), fun v hv => (by cases hv), fun v hv => (by cases hv), fun v hv => (by cases hv)⟩
theorem Nw.below {B : Nat} {W w : World} {ao : Option Addr} {n c g off : Nat} {M : List Nv} (h : Nw B W ao n c g off M) (hb : Below W.heap.size W w) : Nw B w ao n c g off M := ⟨h.z.below hb, fun v hv => (h.i v hv).below hb, fun v hv => (h.p v hv).below hb, h.ni, h.np⟩
theorem Nw.far {B : Nat} {w : World} {ao : Option Addr} {n c g off : Nat} {M : List Nv} (h : Nw B w ao n c g off M) {k : Nat} (hk : k < B) (o : Nat) (v : Value) : Nw B (w.setCell ⟨k, o, none⟩ v) ao n c g off M :=
  ⟨oz_far h.z (fun hc => by have := (h.z.new hc).1; omega) _ _, fun u hu => oz_far (h.i u hu) (fun hc => by have := ((h.i u hu).new hc).1; omega) _ _, fun u hu => oz_far (h.p u hu) (fun hc => by have := ((h.p u hu).new hc).1; omega) _ _, h.ni, h.np⟩
theorem Nw.vn {B : Nat} {w : World} {ao : Option Addr} {n c g off : Nat} {M : List Nv} (h : Nw B w ao n c g off M) : Vn w ao n c g off M := ⟨h.z.v, fun v hv => (h.i v hv).v, fun v hv => (h.p v hv).v⟩
theorem nw_len {B : Nat} {w : World} {ao : Option Addr} {n c g off : Nat} {M : List Nv} (h : Nw B w ao n c g off M) : M.length = n := vn_len h.vn
/-- a node behind nodes -/
theorem app_nv {B : Nat} {w : World} {ao : Option Addr} {n c g off : Nat} {M : List Nv} (h : Nw B w ao n c g off M) (hB : B ≤ w.heap.size) (hn : n ≤ 1000) (u : Nv) :
    ∃ g' off', App 3 B #[34, 34] 34 (w.alloc (.cells (cellsN u).toArray 24)) ao n c g (flatN M) (.slice (some ⟨w.heap.size, 0, none⟩) 1 1) 1 (cellsN u) g' off' := by
  have hl := (oz_news (sz := 3) (lo := 0) (w := w) (Nat.zero_le _) (cellsN u) 1 rfl (by decide) 24).v
  have h1 : ∀ v ∈ cellsN u, v.oneCell' = true := fun v hv => one_flatN [u] v (by unfold flatN; simp; exact hv)
  exact app_own (h.z.below ((Below.refl _ _).alloc (Nat.le_refl _) _)) (by simp; omega) 34 34 34 24 _ 56 Tryd.underlying34 info24 rfl _ 1 (cellsN u) (src_of hl (by decide) Tryd.underlying34 h1) (by simp only [maxLen]; omega) (by omega)
theorem nw_app {B : Nat} {w : World} {ao : Option Addr} {n c g off : Nat} {M : List Nv} (h : Nw B w ao n c g off M) {u : Nv} (hi : Oi B w u.ai u.ni u.ci u.bi u.oi u.l) (hp : Oi B w u.ap u.np u.cp u.bp u.ob u.p) (hni : 0 < u.ci → 0 < c → u.bi ≠ g) (hnp : 0 < u.cp → 0 < c → u.bp ≠ g) {g' off' : Nat}
    (hA : App 3 B #[34, 34] 34 (w.alloc (.cells (cellsN u).toArray 24)) ao n c g (flatN M) (.slice (some ⟨w.heap.size, 0, none⟩) 1 1) 1 (cellsN u) g' off') :
    Nw B (apW Tryd.prog #[34, 34] 34 (w.alloc (.cells (cellsN u).toArray 24)) (.slice ao n c) (.slice (some ⟨w.heap.size, 0, none⟩) 1 1)) (apA Tryd.prog #[34, 34] 34 (w.alloc (.cells (cellsN u).toArray 24)) (.slice ao n c) (.slice (some ⟨w.heap.size, 0, none⟩) 1 1)) (n + 1) (apC Tryd.prog #[34, 34] 34 (w.alloc (.cells (cellsN u).toArray 24)) (.slice ao n c) (.slice (some ⟨w.heap.size, 0, none⟩) 1 1)) g' off' (M ++ [u]) := by
  have hb : Below w.heap.size w (w.alloc (.cells (cellsN u).toArray 24)) := (Below.refl _ _).alloc (Nat.le_refl _) _
  have hz : (w.alloc (.cells (cellsN u).toArray 24)).heap.size = w.heap.size + 1 := by simp
  have key : ∀ v, (v ∈ M ∨ v = u) → (Oi B w v.ai v.ni v.ci v.bi v.oi v.l ∧ (0 < v.ci → 0 < c → v.bi ≠ g)) ∧ (Oi B w v.ap v.np v.cp v.bp v.ob v.p ∧ (0 < v.cp → 0 < c → v.bp ≠ g)) := fun v hv => by
    rcases hv with hv | rfl
    · exact ⟨⟨h.i v hv, fun h1 _ => h.ni v hv h1⟩, ⟨h.p v hv, fun h1 _ => h.np v hv h1⟩⟩
    · exact ⟨⟨hi, hni⟩, ⟨hp, hnp⟩⟩
  have mem : ∀ v, v ∈ M ++ [u] → v ∈ M ∨ v = u := fun v hv => by simpa using hv
  have hcap : 0 < apC Tryd.prog #[34, 34] 34 (w.alloc (.cells (cellsN u).toArray 24)) (.slice ao n c) (.slice (some ⟨w.heap.size, 0, none⟩) 1 1) := by have := hA.own.v.le; omega
  refine ⟨by rw [flatN_app]; exact hA.own, fun v hv => oi_app_else hA ((key v (mem v hv)).1.1.below hb) (key v (mem v hv)).1.2, fun v hv => oi_app_else hA ((key v (mem v hv)).2.1.below hb) (key v (mem v hv)).2.2, fun v hv hc => ?_, fun v hv hc => ?_⟩
  · have hlt := ((key v (mem v hv)).1.1.new hc).2
    rcases hA.place hcap with ⟨h1, h2⟩ | h1
    · rw [h2]; exact (key v (mem v hv)).1.2 hc h1
    · omega
  · have hlt := ((key v (mem v hv)).2.1.new hc).2
    rcases hA.place hcap with ⟨h1, h2⟩ | h1
    · rw [h2]; exact (key v (mem v hv)).2.2 hc h1
    · omega
/-- a list is copied behind none -/
theorem cp_ints {w : World} {ao : Option Addr} {n c b off : Nat} {l : List Int} (h : Vi w ao n c b off l) (hn : n ≤ 1000) (e : Nat) :
    ∃ b' off', App 1 w.heap.size #[22, 22] 22 w (some ⟨e, 0, none⟩) 0 0 0 [] (.slice ao n c) n (ints l) b' off' :=
  app_own (oz_nil 1 w.heap.size w (some ⟨e, 0, none⟩)) (Nat.le_refl _) 22 22 22 3 _ 8 Tryd.underlying22 info3 rfl _ n (ints l) (src_ints Tryd.underlying22 h) (by simp only [maxLen]; omega) (by omega)
theorem cp_fine {w : World} {e n c b' off' : Nat} {ao : Option Addr} {cs : List Value} (h : App 1 w.heap.size #[22, 22] 22 w (some ⟨e, 0, none⟩) 0 0 0 [] (.slice ao n c) n cs b' off') : Fine Tryd.prog #[22, 22] 22 w (.slice (some ⟨e, 0, none⟩) 0 0) (.slice ao n c) n := by
  have := h.fine
  rw [Nat.zero_add] at this
  exact this
theorem cp_own {w : World} {e n c b' off' : Nat} {ao : Option Addr} {l : List Int} (h : App 1 w.heap.size #[22, 22] 22 w (some ⟨e, 0, none⟩) 0 0 0 [] (.slice ao n c) n (ints l) b' off') : Oi w.heap.size (apW Tryd.prog #[22, 22] 22 w (.slice (some ⟨e, 0, none⟩) 0 0) (.slice ao n c)) (apA Tryd.prog #[22, 22] 22 w (.slice (some ⟨e, 0, none⟩) 0 0) (.slice ao n c)) n (apC Tryd.prog #[22, 22] 22 w (.slice (some ⟨e, 0, none⟩) 0 0) (.slice ao n c)) b' off' l := by
  have := h.own
  rw [Nat.zero_add, List.nil_append] at this
  exact this

/-- the filter, and its copy so far -/
structure Ks (w w2 : World) (ao : Option Addr) (n c : Nat) (out : Int) (L : List Nv) (i : Nat) (aP : Option Addr) (cP p q : Nat) (M : List Nv) (w3 : World) : Prop where
  sg : Sg w ao n c out w3
  low : Below w2.heap.size w2 w3
  c0 : w3.cell? ⟨w2.heap.size, 0, none⟩ = some (.slice aP i cP)
  c1 : w3.cell? ⟨w2.heap.size, 1, none⟩ = some (.int .i64 out)
  fz : w3.frozen? ⟨w2.heap.size, 0, none⟩ = false
  nw : Nw (w2.heap.size + 1) w3 aP i cP p q M
  key : M.map keyV = (L.take i).map keyV
  hk : w.heap.size < w2.heap.size
theorem Ks.below {w w2 : World} {ao : Option Addr} {n c : Nat} {out : Int} {L : List Nv} {i : Nat} {aP : Option Addr} {cP p q : Nat} {M : List Nv} {w3 w4 : World} (h : Ks w w2 ao n c out L i aP cP p q M w3) (hb : Below w3.heap.size w3 w4) : Ks w w2 ao n c out L i aP cP p q M w4 :=
  ⟨sg_below h.sg hb, via (w := w2) h.low hb, cell_below hb h.c0, cell_below hb h.c1, (hb.frozen (p := ⟨w2.heap.size, 0, none⟩) (World.block_lt_of_cell? _ _ h.c0)).trans h.fz, h.nw.below hb, h.key, h.hk⟩
/-- one round, in whichever order it is made -/
theorem ks_round {w w2 : World} {ao : Option Addr} {n c b off : Nat} {out : Int} {L : List Nv} {i : Nat} {aP : Option Addr} {cP p q : Nat} {M : List Nv} {w3 : World} (h : Ks w w2 ao n c out L i aP cP p q M w3) (hv : Vn w ao n c b off L) {v : Nv} (hi : L[i]? = some v) (hn : n ≤ 1000) (h1 : v.ni ≤ 1000) (h2 : v.np ≤ 1000)
    (X : World) (e1 : Nat) (hX : Below w3.heap.size w3 X) (Y : World) (e2 : Nat) (hY : Below (apW Tryd.prog #[22, 22] 22 X (.slice (some ⟨e1, 0, none⟩) 0 0) (.slice v.ai v.ni v.ci)).heap.size (apW Tryd.prog #[22, 22] 22 X (.slice (some ⟨e1, 0, none⟩) 0 0) (.slice v.ai v.ni v.ci)) Y) :
    (Fine Tryd.prog #[22, 22] 22 X (.slice (some ⟨e1, 0, none⟩) 0 0) (.slice v.ai v.ni v.ci) v.ni ∧
    S5 w.heap.size w2.heap.size b (off + i * 3) (.slice ao n c) (.slice aP i cP) (.int .i64 v.op) (.slice v.ai v.ni v.ci) (.slice v.ap v.np v.cp) (apW Tryd.prog #[22, 22] 22 X (.slice (some ⟨e1, 0, none⟩) 0 0) (.slice v.ai v.ni v.ci)) ∧
    Fine Tryd.prog #[22, 22] 22 Y (.slice (some ⟨e2, 0, none⟩) 0 0) (.slice v.ap v.np v.cp) v.np ∧
    S5 w.heap.size w2.heap.size b (off + i * 3) (.slice ao n c) (.slice aP i cP) (.int .i64 v.op) (.slice v.ai v.ni v.ci) (.slice v.ap v.np v.cp) (apW Tryd.prog #[22, 22] 22 Y (.slice (some ⟨e2, 0, none⟩) 0 0) (.slice v.ap v.np v.cp))) ∧
    (Fine Tryd.prog #[34, 34] 34 ((apW Tryd.prog #[22, 22] 22 Y (.slice (some ⟨e2, 0, none⟩) 0 0) (.slice v.ap v.np v.cp)).alloc (.cells #[.int .i64 v.op, .slice (apA Tryd.prog #[22, 22] 22 X (.slice (some ⟨e1, 0, none⟩) 0 0) (.slice v.ai v.ni v.ci)) v.ni (apC Tryd.prog #[22, 22] 22 X (.slice (some ⟨e1, 0, none⟩) 0 0) (.slice v.ai v.ni v.ci)), .slice (apA Tryd.prog #[22, 22] 22 Y (.slice (some ⟨e2, 0, none⟩) 0 0) (.slice v.ap v.np v.cp)) v.np (apC Tryd.prog #[22, 22] 22 Y (.slice (some ⟨e2, 0, none⟩) 0 0) (.slice v.ap v.np v.cp))] 24)) (.slice aP i cP) (.slice (some ⟨(apW Tryd.prog #[22, 22] 22 Y (.slice (some ⟨e2, 0, none⟩) 0 0) (.slice v.ap v.np v.cp)).heap.size, 0, none⟩) 1 1) (i + 1) ∧
    S5 w.heap.size w2.heap.size b (off + i * 3) (.slice ao n c) (.slice aP i cP) (.int .i64 v.op) (.slice v.ai v.ni v.ci) (.slice v.ap v.np v.cp) (apW Tryd.prog #[34, 34] 34 ((apW Tryd.prog #[22, 22] 22 Y (.slice (some ⟨e2, 0, none⟩) 0 0) (.slice v.ap v.np v.cp)).alloc (.cells #[.int .i64 v.op, .slice (apA Tryd.prog #[22, 22] 22 X (.slice (some ⟨e1, 0, none⟩) 0 0) (.slice v.ai v.ni v.ci)) v.ni (apC Tryd.prog #[22, 22] 22 X (.slice (some ⟨e1, 0, none⟩) 0 0) (.slice v.ai v.ni v.ci)), .slice (apA Tryd.prog #[22, 22] 22 Y (.slice (some ⟨e2, 0, none⟩) 0 0) (.slice v.ap v.np v.cp)) v.np (apC Tryd.prog #[22, 22] 22 Y (.slice (some ⟨e2, 0, none⟩) 0 0) (.slice v.ap v.np v.cp))] 24)) (.slice aP i cP) (.slice (some ⟨(apW Tryd.prog #[22, 22] 22 Y (.slice (some ⟨e2, 0, none⟩) 0 0) (.slice v.ap v.np v.cp)).heap.size, 0, none⟩) 1 1)) ∧
    (apW Tryd.prog #[34, 34] 34 ((apW Tryd.prog #[22, 22] 22 Y (.slice (some ⟨e2, 0, none⟩) 0 0) (.slice v.ap v.np v.cp)).alloc (.cells #[.int .i64 v.op, .slice (apA Tryd.prog #[22, 22] 22 X (.slice (some ⟨e1, 0, none⟩) 0 0) (.slice v.ai v.ni v.ci)) v.ni (apC Tryd.prog #[22, 22] 22 X (.slice (some ⟨e1, 0, none⟩) 0 0) (.slice v.ai v.ni v.ci)), .slice (apA Tryd.prog #[22, 22] 22 Y (.slice (some ⟨e2, 0, none⟩) 0 0) (.slice v.ap v.np v.cp)) v.np (apC Tryd.prog #[22, 22] 22 Y (.slice (some ⟨e2, 0, none⟩) 0 0) (.slice v.ap v.np v.cp))] 24)) (.slice aP i cP) (.slice (some ⟨(apW Tryd.prog #[22, 22] 22 Y (.slice (some ⟨e2, 0, none⟩) 0 0) (.slice v.ap v.np v.cp)).heap.size, 0, none⟩) 1 1)).frozen? ⟨w2.heap.size, 0, none⟩ = false) ∧
    ∃ p' q' M', Ks w w2 ao n c out L (i + 1) (apA Tryd.prog #[34, 34] 34 ((apW Tryd.prog #[22, 22] 22 Y (.slice (some ⟨e2, 0, none⟩) 0 0) (.slice v.ap v.np v.cp)).alloc (.cells #[.int .i64 v.op, .slice (apA Tryd.prog #[22, 22] 22 X (.slice (some ⟨e1, 0, none⟩) 0 0) (.slice v.ai v.ni v.ci)) v.ni (apC Tryd.prog #[22, 22] 22 X (.slice (some ⟨e1, 0, none⟩) 0 0) (.slice v.ai v.ni v.ci)), .slice (apA Tryd.prog #[22, 22] 22 Y (.slice (some ⟨e2, 0, none⟩) 0 0) (.slice v.ap v.np v.cp)) v.np (apC Tryd.prog #[22, 22] 22 Y (.slice (some ⟨e2, 0, none⟩) 0 0) (.slice v.ap v.np v.cp))] 24)) (.slice aP i cP) (.slice (some ⟨(apW Tryd.prog #[22, 22] 22 Y (.slice (some ⟨e2, 0, none⟩) 0 0) (.slice v.ap v.np v.cp)).heap.size, 0, none⟩) 1 1)) (apC Tryd.prog #[34, 34] 34 ((apW Tryd.prog #[22, 22] 22 Y (.slice (some ⟨e2, 0, none⟩) 0 0) (.slice v.ap v.np v.cp)).alloc (.cells #[.int .i64 v.op, .slice (apA Tryd.prog #[22, 22] 22 X (.slice (some ⟨e1, 0, none⟩) 0 0) (.slice v.ai v.ni v.ci)) v.ni (apC Tryd.prog #[22, 22] 22 X (.slice (some ⟨e1, 0, none⟩) 0 0) (.slice v.ai v.ni v.ci)), .slice (apA Tryd.prog #[22, 22] 22 Y (.slice (some ⟨e2, 0, none⟩) 0 0) (.slice v.ap v.np v.cp)) v.np (apC Tryd.prog #[22, 22] 22 Y (.slice (some ⟨e2, 0, none⟩) 0 0) (.slice v.ap v.np v.cp))] 24)) (.slice aP i cP) (.slice (some ⟨(apW Tryd.prog #[22, 22] 22 Y (.slice (some ⟨e2, 0, none⟩) 0 0) (.slice v.ap v.np v.cp)).heap.size, 0, none⟩) 1 1)) p' q' M'
      ((apW Tryd.prog #[34, 34] 34 ((apW Tryd.prog #[22, 22] 22 Y (.slice (some ⟨e2, 0, none⟩) 0 0) (.slice v.ap v.np v.cp)).alloc (.cells #[.int .i64 v.op, .slice (apA Tryd.prog #[22, 22] 22 X (.slice (some ⟨e1, 0, none⟩) 0 0) (.slice v.ai v.ni v.ci)) v.ni (apC Tryd.prog #[22, 22] 22 X (.slice (some ⟨e1, 0, none⟩) 0 0) (.slice v.ai v.ni v.ci)), .slice (apA Tryd.prog #[22, 22] 22 Y (.slice (some ⟨e2, 0, none⟩) 0 0) (.slice v.ap v.np v.cp)) v.np (apC Tryd.prog #[22, 22] 22 Y (.slice (some ⟨e2, 0, none⟩) 0 0) (.slice v.ap v.np v.cp))] 24)) (.slice aP i cP) (.slice (some ⟨(apW Tryd.prog #[22, 22] 22 Y (.slice (some ⟨e2, 0, none⟩) 0 0) (.slice v.ap v.np v.cp)).heap.size, 0, none⟩) 1 1)).setCell ⟨w2.heap.size, 0, none⟩ (.slice (apA Tryd.prog #[34, 34] 34 ((apW Tryd.prog #[22, 22] 22 Y (.slice (some ⟨e2, 0, none⟩) 0 0) (.slice v.ap v.np v.cp)).alloc (.cells #[.int .i64 v.op, .slice (apA Tryd.prog #[22, 22] 22 X (.slice (some ⟨e1, 0, none⟩) 0 0) (.slice v.ai v.ni v.ci)) v.ni (apC Tryd.prog #[22, 22] 22 X (.slice (some ⟨e1, 0, none⟩) 0 0) (.slice v.ai v.ni v.ci)), .slice (apA Tryd.prog #[22, 22] 22 Y (.slice (some ⟨e2, 0, none⟩) 0 0) (.slice v.ap v.np v.cp)) v.np (apC Tryd.prog #[22, 22] 22 Y (.slice (some ⟨e2, 0, none⟩) 0 0) (.slice v.ap v.np v.cp))] 24)) (.slice aP i cP) (.slice (some ⟨(apW Tryd.prog #[22, 22] 22 Y (.slice (some ⟨e2, 0, none⟩) 0 0) (.slice v.ap v.np v.cp)).heap.size, 0, none⟩) 1 1)) (i + 1) (apC Tryd.prog #[34, 34] 34 ((apW Tryd.prog #[22, 22] 22 Y (.slice (some ⟨e2, 0, none⟩) 0 0) (.slice v.ap v.np v.cp)).alloc (.cells #[.int .i64 v.op, .slice (apA Tryd.prog #[22, 22] 22 X (.slice (some ⟨e1, 0, none⟩) 0 0) (.slice v.ai v.ni v.ci)) v.ni (apC Tryd.prog #[22, 22] 22 X (.slice (some ⟨e1, 0, none⟩) 0 0) (.slice v.ai v.ni v.ci)), .slice (apA Tryd.prog #[22, 22] 22 Y (.slice (some ⟨e2, 0, none⟩) 0 0) (.slice v.ap v.np v.cp)) v.np (apC Tryd.prog #[22, 22] 22 Y (.slice (some ⟨e2, 0, none⟩) 0 0) (.slice v.ap v.np v.cp))] 24)) (.slice aP i cP) (.slice (some ⟨(apW Tryd.prog #[22, 22] 22 Y (.slice (some ⟨e2, 0, none⟩) 0 0) (.slice v.ap v.np v.cp)).heap.size, 0, none⟩) 1 1)))) := by
  have hx := h.below hX
  have hvw := hv.below hx.sg.2
  obtain ⟨hao, ⟨f0, f1, f2⟩, hvi, hvp⟩ := vn_at hvw hi
  have s0 : S5 w.heap.size w2.heap.size b (off + i * 3) (.slice ao n c) (.slice aP i cP) (.int .i64 v.op) (.slice v.ai v.ni v.ci) (.slice v.ap v.np v.cp) X := ⟨hx.sg.1.1, hx.c0, f0, f1, f2⟩
  have hbk : b < w.heap.size := by
    have := (vn_at hv hi).2.1.1
    exact World.block_lt_of_cell? _ _ this
  obtain ⟨b1, o1, hA1⟩ := cp_ints hvi h1 e1
  have g1 := cp_fine hA1
  have g2 := s5_below s0 hA1.below
  have own1 := cp_own hA1
  have hx1 := hx.below hA1.below
  have hz1 := hA1.below.size
  have hXs : w2.heap.size + 1 ≤ X.heap.size := World.block_lt_of_cell? _ _ hx.c0
  generalize apW Tryd.prog #[22, 22] 22 X (.slice (some ⟨e1, 0, none⟩) 0 0) (.slice v.ai v.ni v.ci) = W1 at *
  generalize apA Tryd.prog #[22, 22] 22 X (.slice (some ⟨e1, 0, none⟩) 0 0) (.slice v.ai v.ni v.ci) = a1 at *
  generalize apC Tryd.prog #[22, 22] 22 X (.slice (some ⟨e1, 0, none⟩) 0 0) (.slice v.ai v.ni v.ci) = c1 at *
  have hxY := hx1.below hY
  have sY := s5_below g2 hY
  have ownY := own1.below hY
  have hvY := (vn_at (hv.below hxY.sg.2) hi).2.2.2
  obtain ⟨b2, o2, hA2⟩ := cp_ints hvY h2 e2
  have g3 := cp_fine hA2
  have g4 := s5_below sY hA2.below
  have own2 := cp_own hA2
  have hx2 := hxY.below hA2.below
  have own12 := ownY.below hA2.below
  have hYs : w2.heap.size + 1 ≤ Y.heap.size := World.block_lt_of_cell? _ _ hxY.c0
  have hps : 0 < cP → p < X.heap.size := fun hc => (hx.nw.z.new hc).2
  have hXY : X.heap.size ≤ Y.heap.size := Nat.le_trans hz1 hY.size
  generalize apW Tryd.prog #[22, 22] 22 Y (.slice (some ⟨e2, 0, none⟩) 0 0) (.slice v.ap v.np v.cp) = W2 at *
  generalize apA Tryd.prog #[22, 22] 22 Y (.slice (some ⟨e2, 0, none⟩) 0 0) (.slice v.ap v.np v.cp) = a2 at *
  generalize apC Tryd.prog #[22, 22] 22 Y (.slice (some ⟨e2, 0, none⟩) 0 0) (.slice v.ap v.np v.cp) = c2 at *
  have hW2s : w2.heap.size + 1 ≤ W2.heap.size := World.block_lt_of_cell? _ _ hx2.c0
  have hin : i ≤ 1000 := by have := vn_len hv; have := (List.getElem?_eq_some_iff.1 hi).1; omega
  obtain ⟨p', q', hA3⟩ := app_nv hx2.nw hW2s hin ⟨v.op, a1, v.ni, c1, b1, o1, v.l, a2, v.np, c2, b2, o2, v.p⟩
  have hN := nw_app hx2.nw (u := ⟨v.op, a1, v.ni, c1, b1, o1, v.l, a2, v.np, c2, b2, o2, v.p⟩) (own12.mono hXs) (own2.mono hYs)
    (fun hc hc' => by have e1 := (own12.new hc).1; have e2 := hps hc'; dsimp only at e1 ⊢; omega) (fun hc hc' => by have e1 := (own2.new hc).1; have e2 := hps hc'; dsimp only at e1 ⊢; omega) hA3
  have hlow : Below (w2.heap.size + 1) W2 (apW Tryd.prog #[34, 34] 34 (W2.alloc (.cells (cellsN ⟨v.op, a1, v.ni, c1, b1, o1, v.l, a2, v.np, c2, b2, o2, v.p⟩).toArray 24)) (.slice aP i cP) (.slice (some ⟨W2.heap.size, 0, none⟩) 1 1)) := ((Below.refl (w2.heap.size + 1) W2).alloc hW2s _).trans hA3.below
  refine ⟨⟨g1, g2, g3, g4⟩, ⟨hA3.fine, ?_, ?_⟩, p', q', M ++ [⟨v.op, a1, v.ni, c1, b1, o1, v.l, a2, v.np, c2, b2, o2, v.p⟩], ?_⟩
  · exact s5_low g4 hlow (by have := h.hk; omega) (by omega) (by have := h.hk; omega)
  · exact (World.frozen?_of_block (a := ⟨w2.heap.size, 0, none⟩) (hlow.block _ (by show w2.heap.size < w2.heap.size + 1; omega))).trans hx2.fz
  · have hc0 : (apW Tryd.prog #[34, 34] 34 (W2.alloc (.cells (cellsN ⟨v.op, a1, v.ni, c1, b1, o1, v.l, a2, v.np, c2, b2, o2, v.p⟩).toArray 24)) (.slice aP i cP) (.slice (some ⟨W2.heap.size, 0, none⟩) 1 1)).cell? ⟨w2.heap.size, 0, none⟩ = some (.slice aP i cP) := (World.cell?_of_block (a := ⟨w2.heap.size, 0, none⟩) (hlow.block _ (by show w2.heap.size < w2.heap.size + 1; omega))).trans hx2.c0
    have hc1 := (World.cell?_of_block (a := ⟨w2.heap.size, 1, none⟩) (hlow.block _ (by show w2.heap.size < w2.heap.size + 1; omega))).trans hx2.c1
    have hk := h.hk
    refine ⟨⟨⟨?_, ?_⟩, ?_⟩, ?_, World.cell?_setCell_same _ _ _ hc0, cell_far _ _ (by decide) hc1, ?_, hN.far (by omega) _ _, ?_, hk⟩
    · exact cell_else _ _ (by omega) ((World.cell?_of_block (a := ⟨w.heap.size, 0, none⟩) (hlow.block _ (by show w.heap.size < w2.heap.size + 1; omega))).trans hx2.sg.1.1)
    · exact cell_else _ _ (by omega) ((World.cell?_of_block (a := ⟨w.heap.size, 1, none⟩) (hlow.block _ (by show w.heap.size < w2.heap.size + 1; omega))).trans hx2.sg.1.2)
    · exact (hx2.sg.2.trans (hlow.mono (by omega))).setCell (p := ⟨w2.heap.size, 0, none⟩) (Nat.le_of_lt hk) _
    · exact (hx2.low.trans (hlow.mono (by omega))).setCell (p := ⟨w2.heap.size, 0, none⟩) (Nat.le_refl _) _
    · rw [World.frozen?_setCell]
      exact (World.frozen?_of_block (a := ⟨w2.heap.size, 0, none⟩) (hlow.block _ (by show w2.heap.size < w2.heap.size + 1; omega))).trans hx2.fz
    · rw [List.map_append, h.key, List.take_add_one, hi, List.map_append]
      rfl
set_option maxRecDepth 100000 in
set_option maxHeartbeats 1000000 in
theorem equal_any (ao : Option Addr) (n c b off : Nat) (l : List Int) (ao' : Option Addr) (n' c' b' off' : Nat) (l' : List Int) (w : World) (h : Vi w ao n c b off l) (h' : Vi w ao' n' c' b' off' l') :
    Calls Tryd.prog 44 #[.slice ao n c, .slice ao' n' c'] w fun e w' => e = .returned (.bool (decide (l = l'))) ∧ Below w.heap.size w w' := by
  have hn := vz_small h
  have hn' := vz_small h'
  by_cases hne : n = n'
  · subst hne
    have H := hid (And.intro h (And.intro h' (And.intro (vi_len h) (vi_len h'))))
    clear h h'
    go_enter Tryd.func44, Tryd.ntmps44
    go_wp2
    go_loopg [5] n (fun g k wr => ∃ j : Nat, j ≤ n ∧ g = n - j ∧ k = .int .i64 j ∧ Below w.heap.size w wr ∧ l.take j = l'.take j)
    case atStart => exact ⟨0, Nat.zero_le _, rfl, rfl, Below.refl _ _, by simp⟩
    case round =>
      obtain ⟨j, hj, rfl, rfl, hB, hs⟩ := hrel
      have HB := hid hB
      have HS := hid hs
      clear hs
      by_cases hlt : j < n
      · have hlz : (j : Int) < (n : Int) := by omega
        obtain ⟨m, hm⟩ : ∃ m, l[j]? = some m := ⟨_, List.getElem?_eq_getElem (by rw [H.out.2.2.1]; exact hlt)⟩
        obtain ⟨m', hm'⟩ : ∃ m, l'[j]? = some m := ⟨_, List.getElem?_eq_getElem (by rw [H.out.2.2.2]; exact hlt)⟩
        obtain ⟨rfl, d0⟩ := vi_at (H.out.1.below hB) hm
        obtain ⟨rfl, d1⟩ := vi_at (H.out.2.1.below hB) hm'
        have HM := hid (And.intro hm hm')
        clear hB hm hm'
        by_cases e : m = m'
        · go_wp2
          go_quiet (fail)
          go_wp2
          go_roundg (n - (j + 1))
          case measure => omega
          case rel => exact ⟨j + 1, hlt, rfl, by simp, below_drewN HB.out _, by rw [List.take_add_one, List.take_add_one, HS.out, HM.out.1, HM.out.2, e]⟩
        · go_wp2
          go_quiet (fail)
          go_wp2
          go_ret
          refine ⟨ret_bool (Eq.symm ?_), below_drewN HB.out _⟩
          rw [decide_eq_false]
          intro hc
          subst hc
          rw [HM.out.1] at HM
          have := HM.out.2
          simp at this
          exact e this
      · obtain rfl : j = n := by omega
        have e : l = l' := by
          have := HS.out
          rw [List.take_of_length_le (by rw [H.out.2.2.1]; exact Nat.le_refl _), List.take_of_length_le (by rw [H.out.2.2.2]; exact Nat.le_refl _)] at this
          exact this
        go_wp2
        go_ret
        exact ⟨ret_bool (by rw [decide_eq_true e]), HB.out⟩
  · have hz : ¬ ((n : Int) = (n' : Int)) := by omega
    have e : decide (l = l') = false := by
      rw [decide_eq_false]
      intro hc
      have h1 := vi_len h
      have h2 := vi_len h'
      rw [hc] at h1
      omega
    rw [e]
    clear h h' e
    go_enter Tryd.func44, Tryd.ntmps44
    go_wp2
    go_ret
    exact ⟨rfl, Below.refl _ _⟩


/-- eight cells stand: two filters' nodes, and a node of each -/
abbrev S8 (w1 : World) (k k' b q b' q' : Nat) (s s' x y z y' z' : Value) (w' : World) : Prop := (w'.cell? ⟨k, 0, none⟩ = some s ∧ w'.cell? ⟨k', 0, none⟩ = some s' ∧ w'.cell? ⟨b, q, none⟩ = some x ∧ w'.cell? ⟨b, q + 1, none⟩ = some y ∧ w'.cell? ⟨b, q + 2, none⟩ = some z ∧ w'.cell? ⟨b', q', none⟩ = some x ∧ w'.cell? ⟨b', q' + 1, none⟩ = some y' ∧ w'.cell? ⟨b', q' + 2, none⟩ = some z') ∧ Below w1.heap.size w1 w'
section
variable {w1 : World} {k k' b q b' q' : Nat} {s s' x y z y' z' : Value} {w' : World}
theorem s8_drew (h : S8 w1 k k' b q b' q' s s' x y z y' z' w') : S8 w1 k k' b q b' q' s s' x y z y' z' w'.drew := ⟨h.1, h.2.drew⟩
theorem s8_below {w2 : World} (h : S8 w1 k k' b q b' q' s s' x y z y' z' w') (hb : Below w'.heap.size w' w2) : S8 w1 k k' b q b' q' s s' x y z y' z' w2 :=
  ⟨⟨cell_below hb h.1.1, cell_below hb h.1.2.1, cell_below hb h.1.2.2.1, cell_below hb h.1.2.2.2.1, cell_below hb h.1.2.2.2.2.1, cell_below hb h.1.2.2.2.2.2.1, cell_below hb h.1.2.2.2.2.2.2.1, cell_below hb h.1.2.2.2.2.2.2.2⟩, via (w := w1) h.2 hb⟩
theorem equal_8 {ao : Option Addr} {n c g o : Nat} {l : List Int} {ao' : Option Addr} {n' c' g' o' : Nat} {l' : List Int} (h : Vi w1 ao n c g o l) (h' : Vi w1 ao' n' c' g' o' l') (e : l = l') (hs : S8 w1 k k' b q b' q' s s' x y z y' z' w') :
    Calls Tryd.prog 44 #[.slice ao n c, .slice ao' n' c'] w' fun e w2 => e = .returned (.bool true) ∧ Below w'.heap.size w' w2 := by
  refine (equal_any ao n c g o l ao' n' c' g' o' l' w' (h.below hs.2) (h'.below hs.2)).mono ?_
  rintro e w2 ⟨rfl, hb⟩
  subst e
  exact ⟨by rw [dec_self], hb⟩
end
set_option maxRecDepth 100000 in
set_option maxHeartbeats 8000000 in
theorem sameG_yes (ao : Option Addr) (n c b off : Nat) (L : List Nv) (ao' : Option Addr) (c' b' off' : Nat) (M : List Nv) (out : Int) (w : World) (h : Vn w ao n c b off L) (h' : Vn w ao' n c' b' off' M) (hk : M.map keyV = L.map keyV) :
    Calls Tryd.prog 21 #[.agg #[.slice ao n c, .int .i64 out], .agg #[.slice ao' n c', .int .i64 out]] w fun e w' => e = .returned (.bool true) ∧ Below w.heap.size w w' := by
  have hl := vn_len h
  have hl' := vn_len h'
  have hn := vz_small h.z
  have hB1 : Below w.heap.size w (w.alloc (.cells #[.slice ao n c, .int .i64 out] 36)) := (Below.refl _ _).alloc (Nat.le_refl _) _
  have hB0 : Below w.heap.size w ((w.alloc (.cells #[.slice ao n c, .int .i64 out] 36)).alloc (.cells #[.slice ao' n c', .int .i64 out] 36)) := alloc_low hB1 _
  have z0 : ((w.alloc (.cells #[.slice ao n c, .int .i64 out] 36)).alloc (.cells #[.slice ao' n c', .int .i64 out] 36)).cell? ⟨w.heap.size, 0, none⟩ = some (.slice ao n c) := cell_below ((Below.refl _ _).alloc (Nat.le_refl _) _) (World.cell?_alloc_new w _ _ 0)
  have z1 : ((w.alloc (.cells #[.slice ao n c, .int .i64 out] 36)).alloc (.cells #[.slice ao' n c', .int .i64 out] 36)).cell? ⟨w.heap.size + 1, 0, none⟩ = some (.slice ao' n c') := by simp
  have H := hid (And.intro (h.below hB0) (And.intro (h'.below hB0) (And.intro hk (And.intro hl (And.intro hl' (And.intro hB0 (And.intro z0 z1)))))))
  clear h h' hk hl hl' hB0 hB1 z0 z1
  go_enter Tryd.func21, Tryd.ntmps21
  go_wp2
  go_loopg [5] n (fun g k wr => ∃ (w1 : World) (j : Nat), w1 = wr ∧ j ≤ n ∧ g = n - j ∧ k = .int .i64 j ∧ Below ((w.alloc (.cells #[.slice ao n c, .int .i64 out] 36)).alloc (.cells #[.slice ao' n c', .int .i64 out] 36)).heap.size ((w.alloc (.cells #[.slice ao n c, .int .i64 out] 36)).alloc (.cells #[.slice ao' n c', .int .i64 out] 36)) w1)
  case atStart => exact ⟨_, 0, rfl, Nat.zero_le _, rfl, rfl, Below.refl _ _⟩
  case round =>
    obtain ⟨w1, j, rfl, hj, rfl, rfl, hB⟩ := hrel
    have HB := hid hB
    have x0 := cell_below hB H.out.2.2.2.2.2.2.1
    have x1 := cell_below hB H.out.2.2.2.2.2.2.2
    by_cases hlt : j < n
    · have hlz : (j : Int) < (n : Int) := by omega
      obtain ⟨v, hv⟩ : ∃ m, L[j]? = some m := ⟨_, List.getElem?_eq_getElem (by rw [H.out.2.2.2.1]; exact hlt)⟩
      obtain ⟨u, hu⟩ : ∃ m, M[j]? = some m := ⟨_, List.getElem?_eq_getElem (by rw [H.out.2.2.2.2.1]; exact hlt)⟩
      have hkey : keyV u = keyV v := by
        have e1 : (M.map keyV)[j]? = some (keyV u) := by rw [List.getElem?_map, hu]; rfl
        have e2 : (L.map keyV)[j]? = some (keyV v) := by rw [List.getElem?_map, hv]; rfl
        rw [H.out.2.2.1, e2] at e1
        exact (Option.some.inj e1).symm
      obtain ⟨k1, k2, k3⟩ : u.op = v.op ∧ u.l = v.l ∧ u.p = v.p := by
        unfold keyV at hkey
        simp only [Prod.mk.injEq] at hkey
        exact hkey
      obtain ⟨rfl, ⟨c0, c1, c2⟩, g1, g2⟩ := vn_at (H.out.1.below hB) hv
      obtain ⟨rfl, ⟨d0, d1, d2⟩, g3, g4⟩ := vn_at (H.out.2.1.below hB) hu
      rw [k1] at d0
      have HE := hid (And.intro (And.intro g1 (And.intro g3 k2.symm)) (And.intro g2 (And.intro g4 k3.symm)))
      have hS : S8 w1 w.heap.size (w.heap.size + 1) b (off + j * 3) b' (off' + j * 3) (.slice (some ⟨b, off, none⟩) n c) (.slice (some ⟨b', off', none⟩) n c') (.int .i64 v.op) (.slice v.ai v.ni v.ci) (.slice v.ap v.np v.cp) (.slice u.ai u.ni u.ci) (.slice u.ap u.np u.cp) w1 := ⟨⟨x0, x1, c0, c1, c2, d0, d1, d2⟩, Below.refl _ _⟩
      clear hv hu hkey k1 k2 k3 c0 c1 c2 d0 d1 d2 g1 g2 g3 g4 hB
      go_wp2
      clear x0 x1
      go_region_held3 (fun w' => (w'.cell? ⟨w.heap.size, 0, none⟩ = some (.slice (some ⟨b, off, none⟩) n c) ∧ w'.cell? ⟨w.heap.size + 1, 0, none⟩ = some (.slice (some ⟨b', off', none⟩) n c') ∧ w'.cell? ⟨b, off + j * 3, none⟩ = some (.int .i64 v.op) ∧ w'.cell? ⟨b, off + j * 3 + 1, none⟩ = some (.slice v.ai v.ni v.ci) ∧ w'.cell? ⟨b, off + j * 3 + 2, none⟩ = some (.slice v.ap v.np v.cp) ∧ w'.cell? ⟨b', off' + j * 3, none⟩ = some (.int .i64 v.op) ∧ w'.cell? ⟨b', off' + j * 3 + 1, none⟩ = some (.slice u.ai u.ni u.ci) ∧ w'.cell? ⟨b', off' + j * 3 + 2, none⟩ = some (.slice u.ap u.np u.cp)) ∧ Below w1.heap.size w1 w') (repeat (first | with_reducible assumption | with_reducible refine s8_drew ?_ | with_reducible refine s8_below ?_ ‹_›)) ((first
        | (go_at_call 44; with_reducible refine Calls.mono (equal_8 HE.out.1.1 HE.out.1.2.1 HE.out.1.2.2 (by with_reducible assumption)) ?_; rintro e w13 ⟨rfl, hb⟩)
        | (go_at_call 44; with_reducible refine Calls.mono (equal_8 HE.out.2.1 HE.out.2.2.1 HE.out.2.2.2 (by with_reducible assumption)) ?_; rintro e w13 ⟨rfl, hb⟩)))
      rename_i hh
      have HH := hid hh
      clear hh hS
      go_wp2
      go_roundg (n - (j + 1))
      case measure => omega
      case rel => exact ⟨_, j + 1, rfl, hlt, rfl, by simp, via (w := (w.alloc (.cells #[.slice (some ⟨b, off, none⟩) n c, .int .i64 out] 36)).alloc (.cells #[.slice (some ⟨b', off', none⟩) n c', .int .i64 out] 36)) HB.out HH.out.2⟩
    · obtain rfl : j = n := by omega
      go_wp2
      go_ret
      exact ⟨rfl, via (w := w) H.out.2.2.2.2.2.1 HB.out⟩
section
variable {P : Program} {ops : Array Oper} {Q : Exit → Act → World → Prop} {md : Region.Mode} {S : World → Prop} {z : Nat}

/-- whatever comes up next: S stands behind it, but for number z -/
def Late (P : Program) (md : Region.Mode) (ops : Array Oper) (Q : Exit → Act → World → Prop) (S : World → Prop) (z : Nat) : Nat → Array Bool → Act → World → Prop
  | 0, l, a, w => Region.ready md ops l = [] ∧ Q .normal a w
  | f + 1, l, a, w => (Region.ready md ops l = [] → Q .normal a w) ∧ ∀ j, j ∈ Region.ready md ops l → wpOp P ops Q j (fun a' w' => (j ≠ z → S w') ∧ Late P md ops Q S z f (l.setIfInBounds j true) a' w') a w

theorem late_any (f : Nat) : ∀ (l : Array Bool) (a : Act) (w : World), Late P md ops Q S z f l a w → wpAny P md ops Q f l a w := by
  induction f with
  | zero => exact fun _ _ _ h => h
  | succ f ih => exact fun l a w h => ⟨h.1, fun j hj => wpOp_mono (fun a' w' hh => ih _ a' w' hh.2) (h.2 j hj)⟩

/-- number z waits for number i -/
def waitsFor (md : Region.Mode) (ops : Array Oper) (z i : Nat) : Bool := match ops[z]? with
  | some o => o.after.any (fun e => Region.binds md e && e.on == i)
  | none => false
theorem waits_not {i : Nat} {l : Array Bool} (h : waitsFor md ops z i = true) (hi : i ∈ Region.ready md ops l) : z ∉ Region.ready md ops l := by
  intro hz
  obtain ⟨-, o, ho, hall⟩ := mem_ready.1 hz
  have h0 := (mem_ready.1 hi).1
  unfold waitsFor at h
  rw [ho] at h
  dsimp only at h
  rw [← Array.any_toList] at h
  obtain ⟨e, he, hb⟩ := List.any_eq_true.1 h
  rw [Bool.and_eq_true, beq_iff_eq] at hb
  replace he := Array.mem_toList_iff.1 he
  have h1 := hall e he hb.1
  rw [hb.2] at h1
  by_cases hs : i < l.size
  · simp [hs] at h0 h1
    rw [h0] at h1
    cases h1
  · simp [Array.getElem?_eq_none (Nat.le_of_not_lt hs)] at h1

theorem late_first {i : Nat} {oi : Oper} {v : Value} (hi : ops[i]? = some oi) (hsel : Region.noSelect ops = true) (hQ : ∀ c a w, Q (.panic c) (a.put oi.dst v) w → Q (.panic c) a w) (hz : waitsFor md ops z i = true) (f : Nat) :
    ∀ (l : Array Bool) (a : Act) (w : World), (∀ j oj, ops[j]? = some oj → j ≠ i → l.getD j true = false → (∀ e ∈ oj.after, Region.binds md e = true → e.on ≠ i) → oi.apart ops oj = true) →
      i ∈ Region.ready md ops l → YieldsIf P ops S oi v a → S w → Late P md ops Q S z f (l.setIfInBounds i true) (a.put oi.dst v) w → Late P md ops Q S z (f + 1) l a w := by
  have sel := Region.noSelect_spec hsel
  induction f with
  | zero =>
    intro l a w _ hr hy hS H
    refine ⟨fun h => absurd (h ▸ hr) (by simp), fun j hj => ?_⟩
    by_cases e : j = i
    · rw [e]; exact hy.wpOp hi hS ⟨fun _ => hS, H⟩
    · exact absurd (H.1 ▸ ready_mono hj e) (by simp)
  | succ f ih =>
    intro l a w hfree hr hy hS H
    refine ⟨fun h => absurd (h ▸ hr) (by simp), fun j hj => ?_⟩
    by_cases e : j = i
    · rw [e]; exact hy.wpOp hi hS ⟨fun _ => hS, H⟩
    have hjz : j ≠ z := fun h => waits_not hz hr (h ▸ hj)
    obtain ⟨hju, oj, hoj, hall⟩ := mem_ready.1 hj
    have far : ∀ x ∈ oj.after, Region.binds md x = true → x.on ≠ i := fun x hx hb hxi => by
      have : waitsFor md ops j i = true := by
        unfold waitsFor
        rw [hoj]
        dsimp only
        rw [← Array.any_toList]
        exact List.any_eq_true.2 ⟨x, Array.mem_toList_iff.2 hx, by rw [hb, hxi]; simp⟩
      exact waits_not this hr hj
    refine wpOp_mono (fun a' w' h3 => ⟨fun _ => h3.2.1 hjz, ih (l.setIfInBounds j true) a' w' (fun k ok hk hki hun hno => hfree k ok hk hki ?_ hno) (ready_mono hr (Ne.symm e)) h3.1 (h3.2.1 hjz) (by rw [Array.setIfInBounds_comm _ _ e]; exact h3.2.2)⟩)
      (wpOp_putIf hoj (hfree j oj hoj e hju far) (fun cs b => sel i oi cs b hi) (fun cs b => sel j oj cs b hoj) hQ hy (H.2 j (ready_mono hj e)))
    by_cases hjk : j = k
    · rw [← hjk]; exact hju
    · rw [getD_set_ne true hjk] at hun; exact hun

/-- number i, which yields the same in every world that meets S, is taken first -/
theorem late_take {i : Nat} {oi : Oper} {v : Value} {f : Nat} {l : Array Bool} {a : Act} {w : World} (hi : ops[i]? = some oi) (hs : Region.noSelect ops = true) (hf : Region.free md ops l i = true) (hr : (Region.ready md ops l).contains i = true) (hz : waitsFor md ops z i = true)
    (hQ : ∀ c a w, Q (.panic c) (a.put oi.dst v) w → Q (.panic c) a w) (hy : YieldsIf P ops S oi v a) (hS : S w) (h : Late P md ops Q S z f (l.setIfInBounds i true) (a.put oi.dst v) w) : Late P md ops Q S z (f + 1) l a w :=
  late_first hi hs hQ hz f l a w (Region.free_spec hi hf) (by simpa using hr) hy hS h
theorem late_done {l : Array Bool} {a : Act} {w : World} (hr : Region.ready md ops l = []) (h : Q .normal a w) : ∀ f, Late P md ops Q S z f l a w
  | 0 => ⟨hr, h⟩
  | _ + 1 => ⟨fun _ => h, by rw [hr]; simp⟩

/-- each of these comes up next -/
def Lates (P : Program) (md : Region.Mode) (ops : Array Oper) (Q : Exit → Act → World → Prop) (S : World → Prop) (z f : Nat) (l : Array Bool) (a : Act) (w : World) (rs : List Nat) : Prop :=
  ∀ j, j ∈ rs → wpOp P ops Q j (fun a' w' => (j ≠ z → S w') ∧ Late P md ops Q S z f (l.setIfInBounds j true) a' w') a w
theorem lates_nil {f : Nat} {l : Array Bool} {a : Act} {w : World} : Lates P md ops Q S z f l a w [] := fun _ h => by cases h
theorem lates_cons {f : Nat} {l : Array Bool} {a : Act} {w : World} {j : Nat} {o : Oper} {rs : List Nat} (ho : ops[j]? = some o)
    (h : ∀ K : Act → World → Prop, Shut (∀ a w, S w → (S w → Late P md ops Q S z f (l.setIfInBounds j true) a w) → K a w) → if Region.wanted o (yielded ops a.tmps) = true then Oper.wp P o a w K Q else K (a.put o.dst undef) w)
    (hs : Lates P md ops Q S z f l a w rs) : Lates P md ops Q S z f l a w (j :: rs) := fun k hk => by
  rcases List.mem_cons.1 hk with rfl | hk
  · exact wpOp_step ho (fun K hK => h K (fun a w hS hW => hK a w ⟨fun _ => hS, hW hS⟩))
  · exact hs k hk
/-- number z itself -/
theorem lates_last {f : Nat} {l : Array Bool} {a : Act} {w : World} {o : Oper} (ho : ops[z]? = some o)
    (h : ∀ K : Act → World → Prop, Shut (∀ a w, Late P md ops Q S z f (l.setIfInBounds z true) a w → K a w) → if Region.wanted o (yielded ops a.tmps) = true then Oper.wp P o a w K Q else K (a.put o.dst undef) w) : Lates P md ops Q S z f l a w [z] := fun k hk => by
  rcases List.mem_cons.1 hk with rfl | hk
  · exact wpOp_step ho (fun K hK => h K (fun a w hW => hK a w ⟨fun e => absurd rfl e, hW⟩))
  · cases hk
theorem late_ready {rs : List Nat} {f : Nat} {l : Array Bool} {a : Act} {w : World} (hr : Region.ready md ops l = rs) (hne : rs ≠ []) (h : Lates P md ops Q S z f l a w rs) : Late P md ops Q S z (f + 1) l a w :=
  ⟨fun h0 => absurd (hr ▸ h0) hne, hr ▸ h⟩
theorem wp_region_late {id : Nat} {a : Act} {w : World} (z : Nat) (hm : P.follows .mixedOrders = true) (hS : S w.drew) (h : S w.drew → Late P .any ops Q S z ops.size (Array.replicate ops.size false) a w.drew) : (Code.region id ops true).wp P Q a w :=
  wp_region_any hm (late_any _ _ _ _ (h hS))
end
end Go.Proofs.YtamojciiacmjaaaDoor.kp
