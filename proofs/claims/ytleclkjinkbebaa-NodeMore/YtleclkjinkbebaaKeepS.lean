/- A filter that is copied node by node: what stands, and what a round makes. -/
import Derived.Test.YtleclkjinkbebaaLawB
namespace Go.Proofs.Ytleclkjinkbebaa
open Num Go.RowKit
set_option linter.unusedVariables false
set_option linter.unusedSimpArgs false

/-- five cells that stand: two filters' nodes, and a node's three -/
abbrev S5 (k kp b q : Nat) (u v x y z : Value) (w' : World) : Prop := w'.cell? ⟨k, 0, none⟩ = some u ∧ w'.cell? ⟨kp, 0, none⟩ = some v ∧ w'.cell? ⟨b, q, none⟩ = some x ∧ w'.cell? ⟨b, q + 1, none⟩ = some y ∧ w'.cell? ⟨b, q + 2, none⟩ = some z
section
variable {k kp b q : Nat} {u v x y z : Value} {w w' : World}
theorem s5_drew (h : S5 k kp b q u v x y z w) : S5 k kp b q u v x y z w.drew := h
theorem s5_below (h : S5 k kp b q u v x y z w) (hb : Below w.heap.size w w') : S5 k kp b q u v x y z w' := ⟨cell_below hb h.1, cell_below hb h.2.1, cell_below hb h.2.2.1, cell_below hb h.2.2.2.1, cell_below hb h.2.2.2.2⟩
theorem s5_alloc {o : Obj} (h : S5 k kp b q u v x y z w) : S5 k kp b q u v x y z (w.alloc o) := s5_below h ((Below.refl _ _).alloc (Nat.le_refl _) _)
theorem s5_low {B : Nat} (h : S5 k kp b q u v x y z w) (hb : Below B w w') (h1 : k < B) (h2 : kp < B) (h3 : b < B) : S5 k kp b q u v x y z w' :=
  ⟨(World.cell?_of_block (a := ⟨k, 0, none⟩) (hb.block k h1)).trans h.1, (World.cell?_of_block (a := ⟨kp, 0, none⟩) (hb.block kp h2)).trans h.2.1, (World.cell?_of_block (a := ⟨b, q, none⟩) (hb.block b h3)).trans h.2.2.1, (World.cell?_of_block (a := ⟨b, q + 1, none⟩) (hb.block b h3)).trans h.2.2.2.1, (World.cell?_of_block (a := ⟨b, q + 2, none⟩) (hb.block b h3)).trans h.2.2.2.2⟩
end

theorem info31 : (Try.prog.info? 31).map (fun i => (i.zero, i.size, i.bytes)) = some (some (.agg #[.int .i64 0, .slice none 0 0, .slice none 0 0]), 3, 56) := by kernel_rfl
theorem one_flatN (L : List Nv) : ∀ v ∈ flatN L, v.oneCell' = true := by
  intro v hv
  unfold flatN at hv
  obtain ⟨r, -, hr⟩ := List.mem_flatMap.1 hv
  simp only [cellsN, List.mem_cons, List.not_mem_nil, or_false] at hr
  rcases hr with rfl | rfl | rfl <;> rfl
theorem flatN_app (L : List Nv) (v : Nv) : flatN (L ++ [v]) = flatN L ++ cellsN v := by unfold flatN; rw [List.flatMap_append]; simp
/-- what a node is, wherever it lies -/
def keyV (v : Nv) : Int × List Int × List Int := (v.op, v.l, v.p)
/-- nodes of one's own, their lists in other blocks -/
structure Nw (B : Nat) (w : World) (ao : Option Addr) (n c g off : Nat) (M : List Nv) : Prop where
  z : Oz 3 B w ao n c g off (flatN M)
  i : ∀ v, v ∈ M → Oi B w v.ai v.ni v.ci v.bi v.oi v.l
  p : ∀ v, v ∈ M → Oi B w v.ap v.np v.cp v.bp v.ob v.p
  ni : ∀ v, v ∈ M → 0 < v.ci → v.bi ≠ g
  np : ∀ v, v ∈ M → 0 < v.cp → v.bp ≠ g
theorem nw_nil (B : Nat) (w : World) (ao : Option Addr) : Nw B w ao 0 0 0 0 [] := ⟨oz_nil 3 B w ao, fun v hv => (by cases hv), fun v hv => (by cases hv), fun v hv => (by cases hv), fun v hv => (by cases hv)⟩
theorem Nw.below {B : Nat} {W w : World} {ao : Option Addr} {n c g off : Nat} {M : List Nv} (h : Nw B W ao n c g off M) (hb : Below W.heap.size W w) : Nw B w ao n c g off M := ⟨h.z.below hb, fun v hv => (h.i v hv).below hb, fun v hv => (h.p v hv).below hb, h.ni, h.np⟩
theorem Nw.far {B : Nat} {w : World} {ao : Option Addr} {n c g off : Nat} {M : List Nv} (h : Nw B w ao n c g off M) {k : Nat} (hk : k < B) (o : Nat) (v : Value) : Nw B (w.setCell ⟨k, o, none⟩ v) ao n c g off M :=
  ⟨oz_far h.z (fun hc => by have := (h.z.new hc).1; omega) _ _, fun u hu => oz_far (h.i u hu) (fun hc => by have := ((h.i u hu).new hc).1; omega) _ _, fun u hu => oz_far (h.p u hu) (fun hc => by have := ((h.p u hu).new hc).1; omega) _ _, h.ni, h.np⟩
theorem Nw.vn {B : Nat} {w : World} {ao : Option Addr} {n c g off : Nat} {M : List Nv} (h : Nw B w ao n c g off M) : Vn w ao n c g off M := ⟨h.z.v, fun v hv => (h.i v hv).v, fun v hv => (h.p v hv).v⟩
theorem nw_len {B : Nat} {w : World} {ao : Option Addr} {n c g off : Nat} {M : List Nv} (h : Nw B w ao n c g off M) : M.length = n := vn_len h.vn
/-- a node behind nodes -/
theorem app_nv {B : Nat} {w : World} {ao : Option Addr} {n c g off : Nat} {M : List Nv} (h : Nw B w ao n c g off M) (hB : B ≤ w.heap.size) (hn : n ≤ 1000) (u : Nv) :
    ∃ g' off', App 3 B #[22, 22] 22 (w.alloc (.cells (cellsN u).toArray 31)) ao n c g (flatN M) (.slice (some ⟨w.heap.size, 0, none⟩) 1 1) 1 (cellsN u) g' off' := by
  have hl := (oz_news (sz := 3) (lo := 0) (w := w) (Nat.zero_le _) (cellsN u) 1 rfl (by decide) 31).v
  have h1 : ∀ v ∈ cellsN u, v.oneCell' = true := fun v hv => one_flatN [u] v (by unfold flatN; simp; exact hv)
  exact app_own (h.z.below ((Below.refl _ _).alloc (Nat.le_refl _) _)) (by simp; omega) 22 22 22 31 _ 56 Try.underlying22 info31 rfl _ 1 (cellsN u) (src_of hl (by decide) Try.underlying22 h1) (by simp only [maxLen]; omega) (by omega)
theorem nw_app {B : Nat} {w : World} {ao : Option Addr} {n c g off : Nat} {M : List Nv} (h : Nw B w ao n c g off M) {u : Nv} (hi : Oi B w u.ai u.ni u.ci u.bi u.oi u.l) (hp : Oi B w u.ap u.np u.cp u.bp u.ob u.p) (hni : 0 < u.ci → 0 < c → u.bi ≠ g) (hnp : 0 < u.cp → 0 < c → u.bp ≠ g) {g' off' : Nat}
    (hA : App 3 B #[22, 22] 22 (w.alloc (.cells (cellsN u).toArray 31)) ao n c g (flatN M) (.slice (some ⟨w.heap.size, 0, none⟩) 1 1) 1 (cellsN u) g' off') :
    Nw B (apW Try.prog #[22, 22] 22 (w.alloc (.cells (cellsN u).toArray 31)) (.slice ao n c) (.slice (some ⟨w.heap.size, 0, none⟩) 1 1)) (apA Try.prog #[22, 22] 22 (w.alloc (.cells (cellsN u).toArray 31)) (.slice ao n c) (.slice (some ⟨w.heap.size, 0, none⟩) 1 1)) (n + 1) (apC Try.prog #[22, 22] 22 (w.alloc (.cells (cellsN u).toArray 31)) (.slice ao n c) (.slice (some ⟨w.heap.size, 0, none⟩) 1 1)) g' off' (M ++ [u]) := by
  have hb : Below w.heap.size w (w.alloc (.cells (cellsN u).toArray 31)) := (Below.refl _ _).alloc (Nat.le_refl _) _
  have hz : (w.alloc (.cells (cellsN u).toArray 31)).heap.size = w.heap.size + 1 := by simp
  have key : ∀ v, (v ∈ M ∨ v = u) → (Oi B w v.ai v.ni v.ci v.bi v.oi v.l ∧ (0 < v.ci → 0 < c → v.bi ≠ g)) ∧ (Oi B w v.ap v.np v.cp v.bp v.ob v.p ∧ (0 < v.cp → 0 < c → v.bp ≠ g)) := fun v hv => by
    rcases hv with hv | rfl
    · exact ⟨⟨h.i v hv, fun h1 _ => h.ni v hv h1⟩, ⟨h.p v hv, fun h1 _ => h.np v hv h1⟩⟩
    · exact ⟨⟨hi, hni⟩, ⟨hp, hnp⟩⟩
  have mem : ∀ v, v ∈ M ++ [u] → v ∈ M ∨ v = u := fun v hv => by simpa using hv
  have hcap : 0 < apC Try.prog #[22, 22] 22 (w.alloc (.cells (cellsN u).toArray 31)) (.slice ao n c) (.slice (some ⟨w.heap.size, 0, none⟩) 1 1) := by have := hA.own.v.le; omega
  refine ⟨by rw [flatN_app]; exact hA.own, fun v hv => oi_app_else hA ((key v (mem v hv)).1.1.below hb) (key v (mem v hv)).1.2, fun v hv => oi_app_else hA ((key v (mem v hv)).2.1.below hb) (key v (mem v hv)).2.2, fun v hv hc => ?_, fun v hv hc => ?_⟩
  · have hlt := ((key v (mem v hv)).1.1.new hc).2
    rcases hA.place hcap with ⟨h1, h2⟩ | h1
    · rw [h2]; exact (key v (mem v hv)).1.2 hc h1
    · omega
  · have hlt := ((key v (mem v hv)).2.1.new hc).2
    rcases hA.place hcap with ⟨h1, h2⟩ | h1
    · rw [h2]; exact (key v (mem v hv)).2.2 hc h1
    · omega
/-- a list is copied behind none -/
theorem cp_ints {w : World} {ao : Option Addr} {n c b off : Nat} {l : List Int} (h : Vi w ao n c b off l) (hn : n ≤ 1000) (e : Nat) :
    ∃ b' off', App 1 w.heap.size #[29, 29] 29 w (some ⟨e, 0, none⟩) 0 0 0 [] (.slice ao n c) n (ints l) b' off' :=
  app_own (oz_nil 1 w.heap.size w (some ⟨e, 0, none⟩)) (Nat.le_refl _) 29 29 29 3 _ 8 Try.underlying29 info3 rfl _ n (ints l) (src_ints Try.underlying29 h) (by simp only [maxLen]; omega) (by omega)
theorem cp_fine {w : World} {e n c b' off' : Nat} {ao : Option Addr} {cs : List Value} (h : App 1 w.heap.size #[29, 29] 29 w (some ⟨e, 0, none⟩) 0 0 0 [] (.slice ao n c) n cs b' off') : Fine Try.prog #[29, 29] 29 w (.slice (some ⟨e, 0, none⟩) 0 0) (.slice ao n c) n := by
  have := h.fine
  rw [Nat.zero_add] at this
  exact this
theorem cp_own {w : World} {e n c b' off' : Nat} {ao : Option Addr} {l : List Int} (h : App 1 w.heap.size #[29, 29] 29 w (some ⟨e, 0, none⟩) 0 0 0 [] (.slice ao n c) n (ints l) b' off') : Oi w.heap.size (apW Try.prog #[29, 29] 29 w (.slice (some ⟨e, 0, none⟩) 0 0) (.slice ao n c)) (apA Try.prog #[29, 29] 29 w (.slice (some ⟨e, 0, none⟩) 0 0) (.slice ao n c)) n (apC Try.prog #[29, 29] 29 w (.slice (some ⟨e, 0, none⟩) 0 0) (.slice ao n c)) b' off' l := by
  have := h.own
  rw [Nat.zero_add, List.nil_append] at this
  exact this

/-- the filter, and its copy so far -/
structure Ks (w w2 : World) (ao : Option Addr) (n c : Nat) (out : Int) (L : List Nv) (i : Nat) (aP : Option Addr) (cP p q : Nat) (M : List Nv) (w3 : World) : Prop where
  sg : Sg w ao n c out w3
  low : Below w2.heap.size w2 w3
  c0 : w3.cell? ⟨w2.heap.size, 0, none⟩ = some (.slice aP i cP)
  c1 : w3.cell? ⟨w2.heap.size, 1, none⟩ = some (.int .i64 out)
  fz : w3.frozen? ⟨w2.heap.size, 0, none⟩ = false
  nw : Nw (w2.heap.size + 1) w3 aP i cP p q M
  key : M.map keyV = (L.take i).map keyV
  hk : w.heap.size < w2.heap.size
theorem Ks.below {w w2 : World} {ao : Option Addr} {n c : Nat} {out : Int} {L : List Nv} {i : Nat} {aP : Option Addr} {cP p q : Nat} {M : List Nv} {w3 w4 : World} (h : Ks w w2 ao n c out L i aP cP p q M w3) (hb : Below w3.heap.size w3 w4) : Ks w w2 ao n c out L i aP cP p q M w4 :=
  ⟨sg_below h.sg hb, via (w := w2) h.low hb, cell_below hb h.c0, cell_below hb h.c1, (hb.frozen (p := ⟨w2.heap.size, 0, none⟩) (World.block_lt_of_cell? _ _ h.c0)).trans h.fz, h.nw.below hb, h.key, h.hk⟩
/-- one round, in whichever order it is made -/
theorem ks_round {w w2 : World} {ao : Option Addr} {n c b off : Nat} {out : Int} {L : List Nv} {i : Nat} {aP : Option Addr} {cP p q : Nat} {M : List Nv} {w3 : World} (h : Ks w w2 ao n c out L i aP cP p q M w3) (hv : Vn w ao n c b off L) {v : Nv} (hi : L[i]? = some v) (hn : n ≤ 1000) (h1 : v.ni ≤ 1000) (h2 : v.np ≤ 1000)
    (X : World) (e1 : Nat) (hX : Below w3.heap.size w3 X) (Y : World) (e2 : Nat) (hY : Below (apW Try.prog #[29, 29] 29 X (.slice (some ⟨e1, 0, none⟩) 0 0) (.slice v.ai v.ni v.ci)).heap.size (apW Try.prog #[29, 29] 29 X (.slice (some ⟨e1, 0, none⟩) 0 0) (.slice v.ai v.ni v.ci)) Y) :
    (Fine Try.prog #[29, 29] 29 X (.slice (some ⟨e1, 0, none⟩) 0 0) (.slice v.ai v.ni v.ci) v.ni ∧
    S5 w.heap.size w2.heap.size b (off + i * 3) (.slice ao n c) (.slice aP i cP) (.int .i64 v.op) (.slice v.ai v.ni v.ci) (.slice v.ap v.np v.cp) (apW Try.prog #[29, 29] 29 X (.slice (some ⟨e1, 0, none⟩) 0 0) (.slice v.ai v.ni v.ci)) ∧
    Fine Try.prog #[29, 29] 29 Y (.slice (some ⟨e2, 0, none⟩) 0 0) (.slice v.ap v.np v.cp) v.np ∧
    S5 w.heap.size w2.heap.size b (off + i * 3) (.slice ao n c) (.slice aP i cP) (.int .i64 v.op) (.slice v.ai v.ni v.ci) (.slice v.ap v.np v.cp) (apW Try.prog #[29, 29] 29 Y (.slice (some ⟨e2, 0, none⟩) 0 0) (.slice v.ap v.np v.cp))) ∧
    (Fine Try.prog #[22, 22] 22 ((apW Try.prog #[29, 29] 29 Y (.slice (some ⟨e2, 0, none⟩) 0 0) (.slice v.ap v.np v.cp)).alloc (.cells #[.int .i64 v.op, .slice (apA Try.prog #[29, 29] 29 X (.slice (some ⟨e1, 0, none⟩) 0 0) (.slice v.ai v.ni v.ci)) v.ni (apC Try.prog #[29, 29] 29 X (.slice (some ⟨e1, 0, none⟩) 0 0) (.slice v.ai v.ni v.ci)), .slice (apA Try.prog #[29, 29] 29 Y (.slice (some ⟨e2, 0, none⟩) 0 0) (.slice v.ap v.np v.cp)) v.np (apC Try.prog #[29, 29] 29 Y (.slice (some ⟨e2, 0, none⟩) 0 0) (.slice v.ap v.np v.cp))] 31)) (.slice aP i cP) (.slice (some ⟨(apW Try.prog #[29, 29] 29 Y (.slice (some ⟨e2, 0, none⟩) 0 0) (.slice v.ap v.np v.cp)).heap.size, 0, none⟩) 1 1) (i + 1) ∧
    S5 w.heap.size w2.heap.size b (off + i * 3) (.slice ao n c) (.slice aP i cP) (.int .i64 v.op) (.slice v.ai v.ni v.ci) (.slice v.ap v.np v.cp) (apW Try.prog #[22, 22] 22 ((apW Try.prog #[29, 29] 29 Y (.slice (some ⟨e2, 0, none⟩) 0 0) (.slice v.ap v.np v.cp)).alloc (.cells #[.int .i64 v.op, .slice (apA Try.prog #[29, 29] 29 X (.slice (some ⟨e1, 0, none⟩) 0 0) (.slice v.ai v.ni v.ci)) v.ni (apC Try.prog #[29, 29] 29 X (.slice (some ⟨e1, 0, none⟩) 0 0) (.slice v.ai v.ni v.ci)), .slice (apA Try.prog #[29, 29] 29 Y (.slice (some ⟨e2, 0, none⟩) 0 0) (.slice v.ap v.np v.cp)) v.np (apC Try.prog #[29, 29] 29 Y (.slice (some ⟨e2, 0, none⟩) 0 0) (.slice v.ap v.np v.cp))] 31)) (.slice aP i cP) (.slice (some ⟨(apW Try.prog #[29, 29] 29 Y (.slice (some ⟨e2, 0, none⟩) 0 0) (.slice v.ap v.np v.cp)).heap.size, 0, none⟩) 1 1)) ∧
    (apW Try.prog #[22, 22] 22 ((apW Try.prog #[29, 29] 29 Y (.slice (some ⟨e2, 0, none⟩) 0 0) (.slice v.ap v.np v.cp)).alloc (.cells #[.int .i64 v.op, .slice (apA Try.prog #[29, 29] 29 X (.slice (some ⟨e1, 0, none⟩) 0 0) (.slice v.ai v.ni v.ci)) v.ni (apC Try.prog #[29, 29] 29 X (.slice (some ⟨e1, 0, none⟩) 0 0) (.slice v.ai v.ni v.ci)), .slice (apA Try.prog #[29, 29] 29 Y (.slice (some ⟨e2, 0, none⟩) 0 0) (.slice v.ap v.np v.cp)) v.np (apC Try.prog #[29, 29] 29 Y (.slice (some ⟨e2, 0, none⟩) 0 0) (.slice v.ap v.np v.cp))] 31)) (.slice aP i cP) (.slice (some ⟨(apW Try.prog #[29, 29] 29 Y (.slice (some ⟨e2, 0, none⟩) 0 0) (.slice v.ap v.np v.cp)).heap.size, 0, none⟩) 1 1)).frozen? ⟨w2.heap.size, 0, none⟩ = false) ∧
    ∃ p' q' M', Ks w w2 ao n c out L (i + 1) (apA Try.prog #[22, 22] 22 ((apW Try.prog #[29, 29] 29 Y (.slice (some ⟨e2, 0, none⟩) 0 0) (.slice v.ap v.np v.cp)).alloc (.cells #[.int .i64 v.op, .slice (apA Try.prog #[29, 29] 29 X (.slice (some ⟨e1, 0, none⟩) 0 0) (.slice v.ai v.ni v.ci)) v.ni (apC Try.prog #[29, 29] 29 X (.slice (some ⟨e1, 0, none⟩) 0 0) (.slice v.ai v.ni v.ci)), .slice (apA Try.prog #[29, 29] 29 Y (.slice (some ⟨e2, 0, none⟩) 0 0) (.slice v.ap v.np v.cp)) v.np (apC Try.prog #[29, 29] 29 Y (.slice (some ⟨e2, 0, none⟩) 0 0) (.slice v.ap v.np v.cp))] 31)) (.slice aP i cP) (.slice (some ⟨(apW Try.prog #[29, 29] 29 Y (.slice (some ⟨e2, 0, none⟩) 0 0) (.slice v.ap v.np v.cp)).heap.size, 0, none⟩) 1 1)) (apC Try.prog #[22, 22] 22 ((apW Try.prog #[29, 29] 29 Y (.slice (some ⟨e2, 0, none⟩) 0 0) (.slice v.ap v.np v.cp)).alloc (.cells #[.int .i64 v.op, .slice (apA Try.prog #[29, 29] 29 X (.slice (some ⟨e1, 0, none⟩) 0 0) (.slice v.ai v.ni v.ci)) v.ni (apC Try.prog #[29, 29] 29 X (.slice (some ⟨e1, 0, none⟩) 0 0) (.slice v.ai v.ni v.ci)), .slice (apA Try.prog #[29, 29] 29 Y (.slice (some ⟨e2, 0, none⟩) 0 0) (.slice v.ap v.np v.cp)) v.np (apC Try.prog #[29, 29] 29 Y (.slice (some ⟨e2, 0, none⟩) 0 0) (.slice v.ap v.np v.cp))] 31)) (.slice aP i cP) (.slice (some ⟨(apW Try.prog #[29, 29] 29 Y (.slice (some ⟨e2, 0, none⟩) 0 0) (.slice v.ap v.np v.cp)).heap.size, 0, none⟩) 1 1)) p' q' M'
      ((apW Try.prog #[22, 22] 22 ((apW Try.prog #[29, 29] 29 Y (.slice (some ⟨e2, 0, none⟩) 0 0) (.slice v.ap v.np v.cp)).alloc (.cells #[.int .i64 v.op, .slice (apA Try.prog #[29, 29] 29 X (.slice (some ⟨e1, 0, none⟩) 0 0) (.slice v.ai v.ni v.ci)) v.ni (apC Try.prog #[29, 29] 29 X (.slice (some ⟨e1, 0, none⟩) 0 0) (.slice v.ai v.ni v.ci)), .slice (apA Try.prog #[29, 29] 29 Y (.slice (some ⟨e2, 0, none⟩) 0 0) (.slice v.ap v.np v.cp)) v.np (apC Try.prog #[29, 29] 29 Y (.slice (some ⟨e2, 0, none⟩) 0 0) (.slice v.ap v.np v.cp))] 31)) (.slice aP i cP) (.slice (some ⟨(apW Try.prog #[29, 29] 29 Y (.slice (some ⟨e2, 0, none⟩) 0 0) (.slice v.ap v.np v.cp)).heap.size, 0, none⟩) 1 1)).setCell ⟨w2.heap.size, 0, none⟩ (.slice (apA Try.prog #[22, 22] 22 ((apW Try.prog #[29, 29] 29 Y (.slice (some ⟨e2, 0, none⟩) 0 0) (.slice v.ap v.np v.cp)).alloc (.cells #[.int .i64 v.op, .slice (apA Try.prog #[29, 29] 29 X (.slice (some ⟨e1, 0, none⟩) 0 0) (.slice v.ai v.ni v.ci)) v.ni (apC Try.prog #[29, 29] 29 X (.slice (some ⟨e1, 0, none⟩) 0 0) (.slice v.ai v.ni v.ci)), .slice (apA Try.prog #[29, 29] 29 Y (.slice (some ⟨e2, 0, none⟩) 0 0) (.slice v.ap v.np v.cp)) v.np (apC Try.prog #[29, 29] 29 Y (.slice (some ⟨e2, 0, none⟩) 0 0) (.slice v.ap v.np v.cp))] 31)) (.slice aP i cP) (.slice (some ⟨(apW Try.prog #[29, 29] 29 Y (.slice (some ⟨e2, 0, none⟩) 0 0) (.slice v.ap v.np v.cp)).heap.size, 0, none⟩) 1 1)) (i + 1) (apC Try.prog #[22, 22] 22 ((apW Try.prog #[29, 29] 29 Y (.slice (some ⟨e2, 0, none⟩) 0 0) (.slice v.ap v.np v.cp)).alloc (.cells #[.int .i64 v.op, .slice (apA Try.prog #[29, 29] 29 X (.slice (some ⟨e1, 0, none⟩) 0 0) (.slice v.ai v.ni v.ci)) v.ni (apC Try.prog #[29, 29] 29 X (.slice (some ⟨e1, 0, none⟩) 0 0) (.slice v.ai v.ni v.ci)), .slice (apA Try.prog #[29, 29] 29 Y (.slice (some ⟨e2, 0, none⟩) 0 0) (.slice v.ap v.np v.cp)) v.np (apC Try.prog #[29, 29] 29 Y (.slice (some ⟨e2, 0, none⟩) 0 0) (.slice v.ap v.np v.cp))] 31)) (.slice aP i cP) (.slice (some ⟨(apW Try.prog #[29, 29] 29 Y (.slice (some ⟨e2, 0, none⟩) 0 0) (.slice v.ap v.np v.cp)).heap.size, 0, none⟩) 1 1)))) := by
  have hx := h.below hX
  have hvw := hv.below hx.sg.2
  obtain ⟨hao, ⟨f0, f1, f2⟩, hvi, hvp⟩ := vn_at hvw hi
  have s0 : S5 w.heap.size w2.heap.size b (off + i * 3) (.slice ao n c) (.slice aP i cP) (.int .i64 v.op) (.slice v.ai v.ni v.ci) (.slice v.ap v.np v.cp) X := ⟨hx.sg.1.1, hx.c0, f0, f1, f2⟩
  have hbk : b < w.heap.size := by
    have := (vn_at hv hi).2.1.1
    exact World.block_lt_of_cell? _ _ this
  obtain ⟨b1, o1, hA1⟩ := cp_ints hvi h1 e1
  have g1 := cp_fine hA1
  have g2 := s5_below s0 hA1.below
  have own1 := cp_own hA1
  have hx1 := hx.below hA1.below
  have hz1 := hA1.below.size
  have hXs : w2.heap.size + 1 ≤ X.heap.size := World.block_lt_of_cell? _ _ hx.c0
  generalize apW Try.prog #[29, 29] 29 X (.slice (some ⟨e1, 0, none⟩) 0 0) (.slice v.ai v.ni v.ci) = W1 at *
  generalize apA Try.prog #[29, 29] 29 X (.slice (some ⟨e1, 0, none⟩) 0 0) (.slice v.ai v.ni v.ci) = a1 at *
  generalize apC Try.prog #[29, 29] 29 X (.slice (some ⟨e1, 0, none⟩) 0 0) (.slice v.ai v.ni v.ci) = c1 at *
  have hxY := hx1.below hY
  have sY := s5_below g2 hY
  have ownY := own1.below hY
  have hvY := (vn_at (hv.below hxY.sg.2) hi).2.2.2
  obtain ⟨b2, o2, hA2⟩ := cp_ints hvY h2 e2
  have g3 := cp_fine hA2
  have g4 := s5_below sY hA2.below
  have own2 := cp_own hA2
  have hx2 := hxY.below hA2.below
  have own12 := ownY.below hA2.below
  have hYs : w2.heap.size + 1 ≤ Y.heap.size := World.block_lt_of_cell? _ _ hxY.c0
  have hps : 0 < cP → p < X.heap.size := fun hc => (hx.nw.z.new hc).2
  have hXY : X.heap.size ≤ Y.heap.size := Nat.le_trans hz1 hY.size
  generalize apW Try.prog #[29, 29] 29 Y (.slice (some ⟨e2, 0, none⟩) 0 0) (.slice v.ap v.np v.cp) = W2 at *
  generalize apA Try.prog #[29, 29] 29 Y (.slice (some ⟨e2, 0, none⟩) 0 0) (.slice v.ap v.np v.cp) = a2 at *
  generalize apC Try.prog #[29, 29] 29 Y (.slice (some ⟨e2, 0, none⟩) 0 0) (.slice v.ap v.np v.cp) = c2 at *
  have hW2s : w2.heap.size + 1 ≤ W2.heap.size := World.block_lt_of_cell? _ _ hx2.c0
  have hin : i ≤ 1000 := by have := vn_len hv; have := (List.getElem?_eq_some_iff.1 hi).1; omega
  obtain ⟨p', q', hA3⟩ := app_nv hx2.nw hW2s hin ⟨v.op, a1, v.ni, c1, b1, o1, v.l, a2, v.np, c2, b2, o2, v.p⟩
  have hN := nw_app hx2.nw (u := ⟨v.op, a1, v.ni, c1, b1, o1, v.l, a2, v.np, c2, b2, o2, v.p⟩) (own12.mono hXs) (own2.mono hYs)
    (fun hc hc' => by have e1 := (own12.new hc).1; have e2 := hps hc'; dsimp only at e1 ⊢; omega) (fun hc hc' => by have e1 := (own2.new hc).1; have e2 := hps hc'; dsimp only at e1 ⊢; omega) hA3
  have hlow : Below (w2.heap.size + 1) W2 (apW Try.prog #[22, 22] 22 (W2.alloc (.cells (cellsN ⟨v.op, a1, v.ni, c1, b1, o1, v.l, a2, v.np, c2, b2, o2, v.p⟩).toArray 31)) (.slice aP i cP) (.slice (some ⟨W2.heap.size, 0, none⟩) 1 1)) := ((Below.refl (w2.heap.size + 1) W2).alloc hW2s _).trans hA3.below
  refine ⟨⟨g1, g2, g3, g4⟩, ⟨hA3.fine, ?_, ?_⟩, p', q', M ++ [⟨v.op, a1, v.ni, c1, b1, o1, v.l, a2, v.np, c2, b2, o2, v.p⟩], ?_⟩
  · exact s5_low g4 hlow (by have := h.hk; omega) (by omega) (by have := h.hk; omega)
  · exact (World.frozen?_of_block (a := ⟨w2.heap.size, 0, none⟩) (hlow.block _ (by show w2.heap.size < w2.heap.size + 1; omega))).trans hx2.fz
  · have hc0 : (apW Try.prog #[22, 22] 22 (W2.alloc (.cells (cellsN ⟨v.op, a1, v.ni, c1, b1, o1, v.l, a2, v.np, c2, b2, o2, v.p⟩).toArray 31)) (.slice aP i cP) (.slice (some ⟨W2.heap.size, 0, none⟩) 1 1)).cell? ⟨w2.heap.size, 0, none⟩ = some (.slice aP i cP) := (World.cell?_of_block (a := ⟨w2.heap.size, 0, none⟩) (hlow.block _ (by show w2.heap.size < w2.heap.size + 1; omega))).trans hx2.c0
    have hc1 := (World.cell?_of_block (a := ⟨w2.heap.size, 1, none⟩) (hlow.block _ (by show w2.heap.size < w2.heap.size + 1; omega))).trans hx2.c1
    have hk := h.hk
    refine ⟨⟨⟨?_, ?_⟩, ?_⟩, ?_, World.cell?_setCell_same _ _ _ hc0, cell_far _ _ (by decide) hc1, ?_, hN.far (by omega) _ _, ?_, hk⟩
    · exact cell_else _ _ (by omega) ((World.cell?_of_block (a := ⟨w.heap.size, 0, none⟩) (hlow.block _ (by show w.heap.size < w2.heap.size + 1; omega))).trans hx2.sg.1.1)
    · exact cell_else _ _ (by omega) ((World.cell?_of_block (a := ⟨w.heap.size, 1, none⟩) (hlow.block _ (by show w.heap.size < w2.heap.size + 1; omega))).trans hx2.sg.1.2)
    · exact (hx2.sg.2.trans (hlow.mono (by omega))).setCell (p := ⟨w2.heap.size, 0, none⟩) (Nat.le_of_lt hk) _
    · exact (hx2.low.trans (hlow.mono (by omega))).setCell (p := ⟨w2.heap.size, 0, none⟩) (Nat.le_refl _) _
    · rw [World.frozen?_setCell]
      exact (World.frozen?_of_block (a := ⟨w2.heap.size, 0, none⟩) (hlow.block _ (by show w2.heap.size < w2.heap.size + 1; omega))).trans hx2.fz
    · rw [List.map_append, h.key, List.take_add_one, hi, List.map_append]
      rfl
end Go.Proofs.Ytleclkjinkbebaa
