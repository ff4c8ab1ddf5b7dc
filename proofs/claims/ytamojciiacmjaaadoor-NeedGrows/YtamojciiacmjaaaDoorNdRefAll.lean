/- What a filter needs, by the document: the contract. -/
import Derived.Test.YtamojciiacmjaaaDoorNdAt
import Derived.Test.YtamojciiacmjaaaDoorNdJoin
import Derived.Test.YtamojciiacmjaaaDoorOrdRef
namespace Go.Proofs.YtamojciiacmjaaaDoor
open Num Go.RowKit
open Rg.Num (R empB orN nil moveR grow meet join mvd mx mn cutR Ok Pr boxQ hasB)
set_option linter.unusedVariables false
set_option linter.unusedSimpArgs false

/-- what stands while what is needed is looked for: the boxes, what is known, and the order -/
structure Aq (w wr : World) (ao : Option Addr) (n c : Nat) (out : Int) (p q r s : Int) (K : List R) (oo : Option Addr) (on oc ob of' : Nat) (o : List Nat) : Prop where
  g : Sg w ao n c out wr
  s : Rg.Rc.Has4 wr (w.heap.size + 1) (.int .i64 p) (.int .i64 q) (.int .i64 r) (.int .i64 s)
  z : Rg.Rc.Has4 wr (w.heap.size + 1 + 1) (.int .i64 0) (.int .i64 0) (.int .i64 0) (.int .i64 0)
  k : Rg.Ow w.heap.size wr (some ⟨w.heap.size + 1 + 1 + 1, 0, none⟩) n n (w.heap.size + 1 + 1 + 1) 0 K
  t : Oi (w.heap.size + 1 + 1 + 1 + 1) wr oo on oc ob of' (castL o)
section
variable {w wr w' : World} {ao : Option Addr} {n c : Nat} {out : Int} {p q r s : Int} {K : List R} {oo : Option Addr} {on oc ob of' : Nat} {o : List Nat}
theorem Aq.to (h : Aq w wr ao n c out p q r s K oo on oc ob of' o) (hb : Below wr.heap.size wr w') : Aq w w' ao n c out p q r s K oo on oc ob of' o := ⟨sg_below h.g hb, h.s.below hb, h.z.below hb, Rg.Oz.below h.k hb, h.t.below hb⟩
theorem aq_set (h : Aq w wr ao n c out p q r s K oo on oc ob of' o) {a : Nat} (ha : a < K.length) (u : R) :
    Aq w ((((wr.setCell ⟨w.heap.size + 1 + 1 + 1, a * 4, none⟩ (.int .i64 u.x0)).setCell ⟨w.heap.size + 1 + 1 + 1, a * 4 + 1, none⟩ (.int .i64 u.y0)).setCell ⟨w.heap.size + 1 + 1 + 1, a * 4 + 2, none⟩ (.int .i64 u.x1)).setCell ⟨w.heap.size + 1 + 1 + 1, a * 4 + 3, none⟩ (.int .i64 u.y1)) ao n c out p q r s (K.set a u) oo on oc ob of' o := by
  have hb := but_set4 wr (w.heap.size + 1 + 1 + 1) (a * 4) (a * 4 + 1) (a * 4 + 2) (a * 4 + 3) (.int .i64 u.x0) (.int .i64 u.y0) (.int .i64 u.x1) (.int .i64 u.y1)
  have hw : w.heap.size < wr.heap.size := World.block_lt_of_cell? _ _ h.g.1.1
  have hc : ∀ j, _ := fun j => World.cell?_of_block (a := ⟨w.heap.size, j, none⟩) (hb.block w.heap.size hw (by omega))
  exact ⟨⟨⟨(hc 0).trans h.g.1.1, (hc 1).trans h.g.1.2⟩, Rg.below_set4 h.g.2 (by omega) _ _ _ _ _ _ _ _⟩, has4_else h.s hb (by omega), has4_else h.z hb (by omega), Rg.ow_set40 h.k ha u, Oz.but h.t hb (fun hc => by have := (h.t.new hc).1; omega)⟩
theorem aq_vw (h : Aq w wr ao n c out p q r s K oo on oc ob of' o) (hb : Below wr.heap.size wr w') : Rg.Vw w' (some ⟨w.heap.size + 1 + 1 + 1, 0, none⟩) n n (w.heap.size + 1 + 1 + 1) 0 K := (Rg.Oz.below h.k hb).v
end
theorem aq_new (w : World) (ao : Option Addr) (n c : Nat) (out : Int) (p q r s : Int) (hn : n ≤ 1000000) (W : World) (hW : W = (((w.alloc (.cells #[.slice ao n c, .int .i64 out] 36)).alloc (.cells #[.int .i64 p, .int .i64 q, .int .i64 r, .int .i64 s] 26)).alloc (.cells #[.int .i64 0, .int .i64 0, .int .i64 0, .int .i64 0] 26)).alloc (.cells (Rg.zeroCs n) 26)) :
    W.heap.size = w.heap.size + 1 + 1 + 1 + 1 ∧ Sg w ao n c out W ∧ Rg.Rc.Has4 W (w.heap.size + 1) (.int .i64 p) (.int .i64 q) (.int .i64 r) (.int .i64 s) ∧ Rg.Rc.Has4 W (w.heap.size + 1 + 1) (.int .i64 0) (.int .i64 0) (.int .i64 0) (.int .i64 0) ∧ Rg.Ow w.heap.size W (some ⟨w.heap.size + 1 + 1 + 1, 0, none⟩) n n (w.heap.size + 1 + 1 + 1) 0 (Rg.zeros n) := by
  subst hW
  have h0 := sg_new w ao n c out 36
  have z0 : (w.alloc (.cells #[.slice ao n c, .int .i64 out] 36)).heap.size = w.heap.size + 1 := by simp
  generalize (w.alloc (.cells #[.slice ao n c, .int .i64 out] 36)) = W0 at *
  have b1 := al (W := W0) (.cells #[.int .i64 p, .int .i64 q, .int .i64 r, .int .i64 s] 26)
  have h1 := Rg.Rc.Has4.new (W := W0) (k := w.heap.size + 1) z0.symm (.int .i64 p) (.int .i64 q) (.int .i64 r) (.int .i64 s) 26
  have z1 : (W0.alloc (.cells #[.int .i64 p, .int .i64 q, .int .i64 r, .int .i64 s] 26)).heap.size = w.heap.size + 1 + 1 := by simp [z0]
  generalize (W0.alloc (.cells #[.int .i64 p, .int .i64 q, .int .i64 r, .int .i64 s] 26)) = W1 at *
  have b2 := al (W := W1) (.cells #[.int .i64 0, .int .i64 0, .int .i64 0, .int .i64 0] 26)
  have h2 := Rg.Rc.Has4.new (W := W1) (k := w.heap.size + 1 + 1) z1.symm (.int .i64 0) (.int .i64 0) (.int .i64 0) (.int .i64 0) 26
  have z2 : (W1.alloc (.cells #[.int .i64 0, .int .i64 0, .int .i64 0, .int .i64 0] 26)).heap.size = w.heap.size + 1 + 1 + 1 := by simp [z1]
  generalize (W1.alloc (.cells #[.int .i64 0, .int .i64 0, .int .i64 0, .int .i64 0] 26)) = W2 at *
  have b3 := al (W := W2) (.cells (Rg.zeroCs n) 26)
  have h3 := zeros_new (w := W2) (B := w.heap.size) (by omega) n hn
  rw [z2] at h3
  exact ⟨by simp [z2], sg_below (sg_below (sg_below h0 b1) b2) b3, (h1.below b2).below b3, h2.below b3, h3⟩

/-- all that was there, and what is known -/
def Rk (w : World) (k n : Nat) (w' : World) : Prop := Below w.heap.size w w' ∧ ∃ M : List R, M.length = n ∧ Rg.Ow w.heap.size w' (some ⟨k, 0, none⟩) n n k 0 M
abbrev Sq (w : World) (ao : Option Addr) (n c : Nat) (out : Int) (p q r s : Int) (ob oi : Nat) (a : Nat) (w' : World) : Prop := (w'.cell? ⟨w.heap.size, 0, none⟩ = some (.slice ao n c) ∧ w'.cell? ⟨w.heap.size, 1, none⟩ = some (.int .i64 out) ∧ w'.cell? ⟨w.heap.size + 1, 0, none⟩ = some (.int .i64 p) ∧ w'.cell? ⟨w.heap.size + 1, 1, none⟩ = some (.int .i64 q) ∧ w'.cell? ⟨w.heap.size + 1, 2, none⟩ = some (.int .i64 r) ∧ w'.cell? ⟨w.heap.size + 1, 3, none⟩ = some (.int .i64 s) ∧ w'.cell? ⟨ob, oi, none⟩ = some (.int .i64 a)) ∧ Rk w (w.heap.size + 1 + 1 + 1) n w'
section
variable {w w' : World} {ao : Option Addr} {n c : Nat} {out : Int} {p q r s : Int} {ob oi : Nat} {a : Nat}
theorem sq_below {w2 : World} (h : Sq w ao n c out p q r s ob oi a w') (hb : Below w'.heap.size w' w2) : Sq w ao n c out p q r s ob oi a w2 := by
  obtain ⟨⟨h0, h1, h2, h3, h4, h5, h6⟩, hB, M, hM, hO⟩ := h
  exact ⟨⟨cell_below hb h0, cell_below hb h1, cell_below hb h2, cell_below hb h3, cell_below hb h4, cell_below hb h5, cell_below hb h6⟩, via hB hb, M, hM, Rg.Oz.below hO hb⟩
theorem sq_drew (h : Sq w ao n c out p q r s ob oi a w') : Sq w ao n c out p q r s ob oi a w'.drew := sq_below h (Below.refl _ _).drew
theorem sq_set {j : Nat} {u0 u1 u2 u3 : Int} (h : Sq w ao n c out p q r s ob oi a w') (hj : j < n) (ho : w.heap.size + 1 + 1 + 1 < ob) : Sq w ao n c out p q r s ob oi a ((((w'.setCell ⟨w.heap.size + 1 + 1 + 1, j * 4, none⟩ (.int .i64 u0)).setCell ⟨w.heap.size + 1 + 1 + 1, j * 4 + 1, none⟩ (.int .i64 u1)).setCell ⟨w.heap.size + 1 + 1 + 1, j * 4 + 2, none⟩ (.int .i64 u2)).setCell ⟨w.heap.size + 1 + 1 + 1, j * 4 + 3, none⟩ (.int .i64 u3)) := by
  obtain ⟨⟨h0, h1, h2, h3, h4, h5, h6⟩, hB, M, hM, hO⟩ := h
  have hb := but_set4 w' (w.heap.size + 1 + 1 + 1) (j * 4) (j * 4 + 1) (j * 4 + 2) (j * 4 + 3) (.int .i64 u0) (.int .i64 u1) (.int .i64 u2) (.int .i64 u3)
  have g0 : w.heap.size < w'.heap.size := World.block_lt_of_cell? _ _ h0
  have g2 : w.heap.size + 1 < w'.heap.size := World.block_lt_of_cell? _ _ h2
  have g6 : ob < w'.heap.size := World.block_lt_of_cell? _ _ h6
  have e0 : ∀ i, _ := fun i => World.cell?_of_block (a := ⟨w.heap.size, i, none⟩) (hb.block w.heap.size g0 (by omega))
  have e2 : ∀ i, _ := fun i => World.cell?_of_block (a := ⟨w.heap.size + 1, i, none⟩) (hb.block (w.heap.size + 1) g2 (by omega))
  have e6 : ∀ i, _ := fun i => World.cell?_of_block (a := ⟨ob, i, none⟩) (hb.block ob g6 (by omega))
  exact ⟨⟨(e0 0).trans h0, (e0 1).trans h1, (e2 0).trans h2, (e2 1).trans h3, (e2 2).trans h4, (e2 3).trans h5, (e6 oi).trans h6⟩, Rg.below_set4 hB (by omega) _ _ _ _ _ _ _ _, M.set j ⟨u0, u1, u2, u3⟩, by rw [List.length_set]; exact hM, Rg.ow_set40 hO (by omega) ⟨u0, u1, u2, u3⟩⟩
end

set_option maxRecDepth 100000 in
set_option maxHeartbeats 2000000 in
theorem refAllN_any (ao : Option Addr) (n c b off : Nat) (L : List Nv) (out : Int) (p q r s : Int) (w : World) (h : Vn w ao n c b off L) (hf : Few n L) (hrn : ∀ v, v ∈ L → Rn v.op v.l v.p) (hround : roundB (insL L) = false) (hok : Ok ⟨p, q, r, s⟩) :
    Calls Tryd.prog 16 #[.agg #[.slice ao n c, .int .i64 out], .agg #[.int .i64 p, .int .i64 q, .int .i64 r, .int .i64 s]] w fun e w' => (∃ (K : List R) (kb : Nat), e = .returned (.tuple #[.slice (some ⟨kb, 0, none⟩) n n, .agg #[.int .i64 (atG L out ⟨p, q, r, s⟩ (fK K) (-1)).x0, .int .i64 (atG L out ⟨p, q, r, s⟩ (fK K) (-1)).y0, .int .i64 (atG L out ⟨p, q, r, s⟩ (fK K) (-1)).x1, .int .i64 (atG L out ⟨p, q, r, s⟩ (fK K) (-1)).y1]]) ∧ Rg.Ow w.heap.size w' (some ⟨kb, 0, none⟩) n n kb 0 K ∧ Kn2 L out ⟨p, q, r, s⟩ 0 K) ∧ Below w.heap.size w w' := by
  have hl := vn_len h
  have hn1 := hf.n
  have hm := Rg.run_zeros n (by omega)
  obtain ⟨W, hW⟩ : ∃ W, W = (((w.alloc (.cells #[.slice ao n c, .int .i64 out] 36)).alloc (.cells #[.int .i64 p, .int .i64 q, .int .i64 r, .int .i64 s] 26)).alloc (.cells #[.int .i64 0, .int .i64 0, .int .i64 0, .int .i64 0] 26)).alloc (.cells (Rg.zeroCs n) 26) := ⟨_, rfl⟩
  have A := aq_new w ao n c out p q r s (by omega) W hW
  have C := refAll_any ao n c b off L out W (h.below A.2.1.2) hf
  have HV := hid (And.intro h (And.intro hf (And.intro hl (And.intro hrn (And.intro hround hok)))))
  rw [hW] at A C
  have HA := hid A
  have HC := hid C
  have hP : ∀ v, v ∈ L → Pr v.op (nth v.p) := fun v hv => (hrn v hv).pr
  have HP := hid hP
  clear A C h hf hl hrn hround hok hP hW
  clear W
  obtain ⟨g0, g1⟩ := HA.out.2.1.1
  go_enter Tryd.func16, Tryd.ntmps16
  go_wp2_with (go_at_call 37; with_reducible refine Calls.mono HC.out ?_; rintro e w1 ⟨hr, hb⟩; obtain ⟨oo, on, oc, ob, of', rfl, hO⟩ := retI hr; have H1 := hid (And.intro hO hb); clear hr hb hO g0 g1)
  have hq0 : Aq w w1 ao n c out p q r s (List.replicate L.length nil) oo on oc ob of' (ordG (insL L)) := by
    refine ⟨sg_below HA.out.2.1 H1.out.2, HA.out.2.2.1.below H1.out.2, HA.out.2.2.2.1.below H1.out.2, ?_, ?_⟩
    · rw [HV.out.2.2.1]; exact Rg.Oz.below HA.out.2.2.2.2 H1.out.2
    · have := H1.out.1
      rw [HA.out.1] at this
      exact this
  have hon : on = (ordG (insL L)).length := by have := vi_len H1.out.1.v; rw [castL_len] at this; exact this.symm
  have hol : on ≤ 1000 := by
    rw [hon]
    have h1 := (ordG_ord (insL L)).nodup
    have h2 := nodup_len _ h1 (ordG_ord (insL L)).lt
    rw [insL_len, HV.out.2.2.1] at h2
    omega
  have HQ := hid (And.intro hq0 (And.intro hon (kn2_start L out ⟨p, q, r, s⟩)))
  clear hq0 hon HA H1 HC
  go_wp2
  go_loopg [8] on (fun gk v8 wr => ∃ (wq : World) (m : Nat) (K : List R), wq = wr ∧ m ≤ on ∧ m = gk ∧ v8 = .int .i64 ((m : Int) - 1) ∧ Aq w wr ao n c out p q r s K oo on oc ob of' (ordG (insL L)) ∧ Kn2 L out ⟨p, q, r, s⟩ m K)
  case atStart => exact ⟨_, on, _, rfl, Nat.le_refl _, rfl, by rw [IntWalk.wrap64_in _ (by omega)], HQ.out.1, by rw [HQ.out.2.1]; exact HQ.out.2.2⟩
  case round =>
    obtain ⟨wq, m, K, rfl, hm1, rfl, rfl, hA, hK⟩ := hrel
    have HA := hid (And.intro hA hK)
    obtain ⟨g0, g1⟩ := hA.g.1
    obtain ⟨a0, a1, a2, a3, af⟩ := id hA.s
    by_cases hm0 : 0 < m
    · obtain ⟨i, rfl⟩ : ∃ i, m = i + 1 := ⟨m - 1, by omega⟩
      have hqz : ((i + 1 : Nat) : Int) - 1 = (i : Int) := by omega
      have hio : i < (ordG (insL L)).length := by rw [← HQ.out.2.1]; omega
      obtain ⟨a, ha⟩ : ∃ a, (ordG (insL L))[i]? = some a := ⟨_, List.getElem?_eq_getElem hio⟩
      have han : a < n := by
        have := (ordG_ord (insL L)).lt a (List.mem_of_getElem? ha)
        rw [insL_len, HV.out.2.2.1] at this
        exact this
      obtain ⟨rfl, t0⟩ := vi_at hA.t.v (show (castL (ordG (insL L)))[i]? = some (a : Int) by unfold castL; rw [List.getElem?_map, ha]; rfl)
      have hob : w.heap.size + 1 + 1 + 1 < ob := by
        have h0 := hA.t.v.le
        have := (hA.t.new (by omega)).1
        omega
      have hiz : (i : Int) < (on : Int) := by omega
      have haz : (a : Int) < (n : Int) := by omega
      have hkl : a < K.length := by rw [hK.len, HV.out.2.2.1]; exact han
      have HN := hid (And.intro ha hkl)
      have hS : Sq w ao n c out p q r s ob (of' + i) a wq := ⟨⟨g0, g1, a0, a1, a2, a3, t0⟩, hA.g.2, K, by rw [hK.len]; exact HV.out.2.2.1, hA.k⟩
      rw [hqz]
      clear hA hK ha hio hqz hkl
      go_wp2
      go_region_held3 (fun w' => (w'.cell? ⟨w.heap.size, 0, none⟩ = some (.slice ao n c) ∧ w'.cell? ⟨w.heap.size, 1, none⟩ = some (.int .i64 out) ∧ w'.cell? ⟨w.heap.size + 1, 0, none⟩ = some (.int .i64 p) ∧ w'.cell? ⟨w.heap.size + 1, 1, none⟩ = some (.int .i64 q) ∧ w'.cell? ⟨w.heap.size + 1, 2, none⟩ = some (.int .i64 r) ∧ w'.cell? ⟨w.heap.size + 1, 3, none⟩ = some (.int .i64 s) ∧ w'.cell? ⟨ob, of' + i, none⟩ = some (.int .i64 a)) ∧ Rk w (w.heap.size + 1 + 1 + 1) n w') (repeat (first | with_reducible assumption | with_reducible refine sq_drew ?_ | with_reducible refine sq_set ?_ ‹_› ‹_› | with_reducible refine sq_below ?_ ‹_›)) ((first
        | (go_at_call 38; with_reducible refine Calls.mono (at_any ao n c b off L out p q r s _ n n _ 0 K (a : Int) _ (HV.out.1.below (HA.out.1.g.2.drew)) HV.out.2.1 (aq_vw HA.out.1 (Below.refl _ _).drew) rfl HV.out.2.2.2.1 HA.out.2.ok) ?_; rintro e w3 ⟨rfl, hb3⟩; have H3 := hid (HA.out.1.to (via (Below.refl _ _).drew hb3)); obtain ⟨r', y0, y1, y2, y3, f0, f1, f2, f3⟩ := Rg.ow_four0 H3.out.k HN.out.2)))
      go_wp2
      go_roundg i
      case measure => omega
      case rel => exact ⟨_, i, _, rfl, by omega, rfl, by simp, aq_set H3.out HN.out.2 _, kn2_step HV.out.2.2.2.2.1 HP.out HV.out.2.2.2.2.2 HA.out.2 HN.out.1⟩
    · obtain rfl : m = 0 := by omega
      clear hA hK
      go_wp2_with (go_at_call 38; with_reducible refine Calls.mono (at_any ao n c b off L out p q r s _ n n _ 0 K (-1) _ (HV.out.1.below HA.out.1.g.2) HV.out.2.1 (aq_vw HA.out.1 (Below.refl _ _)) rfl HV.out.2.2.2.1 HA.out.2.ok) ?_; rintro e w3 ⟨rfl, hb3⟩; have H3 := hid (HA.out.1.to hb3); obtain ⟨z0, z1, z2, z3, zf⟩ := id H3.out.z; clear hb3)
      generalize hG : atG L out ⟨p, q, r, s⟩ (fK K) (-1) = G at *
      obtain ⟨s0, s1, s2, s3⟩ := Rg.Rc.set4 z0 z1 z2 z3 (.int .i64 G.x0) (.int .i64 G.y0) (.int .i64 G.x1) (.int .i64 G.y1)
      refine bodyPost_ret (v := .tuple #[.slice (some ⟨w.heap.size + 1 + 1 + 1, 0, none⟩) n n, .agg #[.int .i64 G.x0, .int .i64 G.y0, .int .i64 G.x1, .int .i64 G.y1]]) (by simp [results, Tryd.results16, go_sem, s0, s1, s2, s3]) rfl ⟨⟨K, w.heap.size + 1 + 1 + 1, by rw [hG], ?_, HA.out.2⟩, ?_⟩
      · exact rw_but2 H3.out.k (but_set4 _ _ _ _ _ _ _ _ _ _) (by omega)
      · exact low4 H3.out.g.2 (by omega) _ _ _ _
end Go.Proofs.YtamojciiacmjaaaDoor
