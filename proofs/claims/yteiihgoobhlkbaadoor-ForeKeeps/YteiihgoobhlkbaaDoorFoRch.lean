/- How far a rectangle reaches: what is known of nodes and inputs (contracts), and nodes that move and grow. -/
import Derived.Test.YteiihgoobhlkbaaDoorFoOver
namespace Go.Proofs.YteiihgoobhlkbaaDoor
open Num Go.RowKit
open Rg.Num (Pr moveR grow join)
set_option linter.unusedVariables false
set_option linter.unusedSimpArgs false

abbrev RR := Rg.Num.R
def pickR (K : List RR) (x : Int) : RR := if 0 ≤ x ∧ x < (K.length : Int) then K.getD x.toNat Rg.Num.nil else Rg.Num.nil
def inR (s : RR) (K : List RR) (x : Int) : RR := if x = -1 then s else pickR K x
abbrev aggR (r : RR) : Value := .agg #[.int .i64 r.x0, .int .i64 r.y0, .int .i64 r.x1, .int .i64 r.y1]

set_option maxHeartbeats 1000000 in
theorem pickR_any (x : Int) (ao : Option Addr) (n c b off : Nat) (K : List RR) (w : World) (h : Rg.Vw w ao n c b off K) :
    Calls Tryd.prog 42 #[.int .i64 x, .slice ao n c] w fun e w' => e = .returned (.agg #[.int .i64 (pickR K x).x0, .int .i64 (pickR K x).y0, .int .i64 (pickR K x).x1, .int .i64 (pickR K x).y1]) ∧ Below w.heap.size w w' := by
  have hl := Rg.vw_len h
  have hn := Rg.vw_small h
  by_cases hx : 0 ≤ x ∧ x < (n : Int)
  · obtain ⟨i, rfl⟩ : ∃ i : Nat, x = (i : Int) := ⟨x.toNat, by omega⟩
    have hi : i < K.length := by omega
    have hv : K[i]? = some (pickR K (i : Int)) := by
      unfold pickR
      rw [hl, if_pos hx, List.getD_eq_getElem?_getD, Int.toNat_natCast, List.getElem?_eq_getElem hi]
      rfl
    obtain ⟨rfl, c0, c1, c2, c3⟩ := Rg.vw_at h hv
    obtain ⟨h0, h1⟩ := hx
    have hb : b < w.heap.size := World.block_lt_of_cell? _ _ c0
    have h2 : ¬ ((n : Int) ≤ (i : Int)) := by omega
    have h3 : ¬ ((i : Int) < 0) := by omega
    generalize pickR K (i : Int) = r at *
    clear h hl hv hi
    go_enter Tryd.func42, Tryd.ntmps42
    go_wp2
    refine bodyPost_ret (v := .agg #[.int .i64 r.x0, .int .i64 r.y0, .int .i64 r.x1, .int .i64 r.y1]) (by simp [results, Tryd.results42, go_sem]) rfl ⟨rfl, ?_⟩
    go_grown
  · have e : pickR K x = Rg.Num.nil := by unfold pickR; rw [hl, if_neg hx]
    rw [e]
    show Calls Tryd.prog 42 #[.int .i64 x, .slice ao n c] w fun e w' => e = .returned (.agg #[.int .i64 0, .int .i64 0, .int .i64 0, .int .i64 0]) ∧ Below w.heap.size w w'
    clear h hl e
    by_cases h0 : x < 0
    · go_enter Tryd.func42, Tryd.ntmps42
      go_wp2
      refine bodyPost_ret (v := .agg #[.int .i64 0, .int .i64 0, .int .i64 0, .int .i64 0]) (by simp [results, Tryd.results42, go_sem]) rfl ⟨rfl, ?_⟩
      go_grown
    · have h1 : (n : Int) ≤ x := by omega
      go_enter Tryd.func42, Tryd.ntmps42
      go_wp2
      refine bodyPost_ret (v := .agg #[.int .i64 0, .int .i64 0, .int .i64 0, .int .i64 0]) (by simp [results, Tryd.results42, go_sem]) rfl ⟨rfl, ?_⟩
      go_grown

/-- four cells of a block stand where another block is written -/
theorem has4_else {w w' : World} {k g : Nat} {v0 v1 v2 v3 : Value} (h : Rg.Rc.Has4 w k v0 v1 v2 v3) (hb : But g w w') (hg : k ≠ g) : Rg.Rc.Has4 w' k v0 v1 v2 v3 := by
  have hk : k < w.heap.size := World.block_lt_of_cell? w ⟨k, 0, none⟩ h.c0
  have e := hb.block k hk hg
  have hc : ∀ j, w'.cell? ⟨k, j, none⟩ = w.cell? ⟨k, j, none⟩ := fun j => World.cell?_of_block (a := ⟨k, j, none⟩) e
  exact ⟨by rw [hc]; exact h.c0, by rw [hc]; exact h.c1, by rw [hc]; exact h.c2, by rw [hc]; exact h.c3, fun j => by rw [World.frozen?_of_block (a := ⟨k, j, none⟩) e]; exact h.fz j⟩
theorem but_set4 (w : World) (g p q r s : Nat) (u0 u1 u2 u3 : Value) : But g w ((((w.setCell ⟨g, p, none⟩ u0).setCell ⟨g, q, none⟩ u1).setCell ⟨g, r, none⟩ u2).setCell ⟨g, s, none⟩ u3) := but_set (but_set (but_set (but_set (But.refl _ _) _ _) _ _) _ _) _ _
theorem nb_else {w w' : World} {k g : Nat} {op : Int} {ai : Option Addr} {ni ci : Nat} {ap : Option Addr} {np cp : Nat} (h : Nb w k op ai ni ci ap np cp) (hb : But g w w') (hg : k ≠ g) : Nb w' k op ai ni ci ap np cp := by
  have hk : k < w.heap.size := World.block_lt_of_cell? w ⟨k, 0, none⟩ h.c0
  have e := hb.block k hk hg
  have hc : ∀ j, w'.cell? ⟨k, j, none⟩ = w.cell? ⟨k, j, none⟩ := fun j => World.cell?_of_block (a := ⟨k, j, none⟩) e
  exact ⟨(hc 0).trans h.c0, (hc 1).trans h.c1, (hc 2).trans h.c2⟩

def partR (V : List RR) (k : Nat) : List RR := V.take k ++ List.replicate (V.length - k) ⟨0, 0, 0, 0⟩
theorem partR_zero (V : List RR) : partR V 0 = Rg.zeros V.length := by unfold partR Rg.zeros; simp
theorem partR_all (V : List RR) : partR V V.length = V := by unfold partR; simp
theorem partR_len (V : List RR) {k : Nat} (hk : k ≤ V.length) : (partR V k).length = V.length := by unfold partR; simp; omega
theorem partR_set {V : List RR} {k : Nat} {v : RR} (h : V[k]? = some v) : (partR V k).set k v = partR V (k + 1) := by
  obtain ⟨hk, rfl⟩ := List.getElem?_eq_some_iff.1 h
  unfold partR
  have e : List.replicate (V.length - k) (⟨0, 0, 0, 0⟩ : RR) = ⟨0, 0, 0, 0⟩ :: List.replicate (V.length - (k + 1)) ⟨0, 0, 0, 0⟩ := by
    rw [show V.length - k = (V.length - (k + 1)) + 1 by omega, List.replicate_succ]
  rw [e, List.set_append_right _ _ (by simp; omega), List.take_succ_eq_append_getElem hk]
  have : k - (V.take k).length = 0 := by simp; omega
  rw [this]
  simp only [List.set_cons_zero, List.append_assoc, List.cons_append, List.nil_append]
theorem zeros_new {w : World} {B : Nat} (hB : B ≤ w.heap.size) (n : Nat) (hn : n ≤ 1000000) : Rg.Ow B (w.alloc (.cells (Rg.zeroCs n) 34)) (some ⟨w.heap.size, 0, none⟩) n n w.heap.size 0 (Rg.zeros n) := by
  have hz : (Rg.zeros n).length = n := by unfold Rg.zeros; simp
  have := Rg.ow_news (B := B) (w := w) hB (Rg.zeros n) (by omega) 34
  rw [hz] at this
  exact this

set_option maxRecDepth 100000 in
set_option maxHeartbeats 2000000 in
theorem inputsR_any (op : Int) (ai : Option Addr) (ni ci bi oi : Nat) (l : List Int) (ap : Option Addr) (np cp : Nat) (s : RR) (ko : Option Addr) (kn kc kb koff : Nat) (K : List RR) (w : World)
    (hi : Vi w ai ni ci bi oi l) (hni : ni ≤ 1000) (hK : Rg.Vw w ko kn kc kb koff K) :
    Calls Tryd.prog 41 #[.agg #[.int .i64 op, .slice ai ni ci, .slice ap np cp], .agg #[.int .i64 s.x0, .int .i64 s.y0, .int .i64 s.x1, .int .i64 s.y1], .slice ko kn kc] w fun e w' => Rg.RetV w' e (l.map (inR s K)) ∧ Below w.heap.size w w' := by
  have hl := vi_len hi
  obtain ⟨W0, hW0⟩ : ∃ W0, W0 = (w.alloc (.cells #[.int .i64 op, .slice ai ni ci, .slice ap np cp] 39)).alloc (.cells #[.int .i64 s.x0, .int .i64 s.y0, .int .i64 s.x1, .int .i64 s.y1] 34) := ⟨_, rfl⟩
  have hb0 : Below w.heap.size w W0 := by rw [hW0]; exact ((Below.refl _ _).alloc (Nat.le_refl _) _).alloc (by simp) _
  have hz0 : W0.heap.size = w.heap.size + 1 + 1 := by rw [hW0]; simp
  have h4 : Rg.Rc.Has4 W0 (w.heap.size + 1) (.int .i64 s.x0) (.int .i64 s.y0) (.int .i64 s.x1) (.int .i64 s.y1) := by rw [hW0]; exact Rg.Rc.Has4.new (by simp) _ _ _ _ _
  obtain ⟨V, hV⟩ : ∃ V, V = l.map (inR s K) := ⟨_, rfl⟩
  have hVl : V.length = ni := by rw [hV, List.length_map, hl]
  have hm := Rg.run_zeros ni (by omega)
  have h0 : Rg.Ow w.heap.size (W0.alloc (.cells (Rg.zeroCs ni) 34)) (some ⟨w.heap.size + 1 + 1, 0, none⟩) ni ni (w.heap.size + 1 + 1) 0 (partR V 0) := by
    have := zeros_new (w := W0) (B := w.heap.size) hb0.size ni (by omega)
    rw [hz0] at this
    rw [partR_zero, hVl]
    exact this
  have hb1 : Below w.heap.size w (W0.alloc (.cells (Rg.zeroCs ni) 34)) := hb0.alloc hb0.size _
  have h41 := h4.below (al (W := W0) (.cells (Rg.zeroCs ni) 34))
  rw [hW0] at h0 hb1 h41
  have H := hid (And.intro hi (And.intro hK (And.intro hl (And.intro hV hVl))))
  have H1 := hid (And.intro h0 (And.intro hb1 h41))
  rw [← hV]
  clear hi hl hK hV hVl h0 hb1 hb0 h4 h41 hW0 hz0
  clear W0
  go_enter Tryd.func41, Tryd.ntmps41
  go_wp2
  go_loopg [17] ni (fun g i wr => ∃ k : Nat, k ≤ ni ∧ g = ni - k ∧ i = .int .i64 k ∧ Below w.heap.size w wr ∧ Rg.Ow w.heap.size wr (some ⟨w.heap.size + 1 + 1, 0, none⟩) ni ni (w.heap.size + 1 + 1) 0 (partR V k) ∧ Rg.Rc.Has4 wr (w.heap.size + 1) (.int .i64 s.x0) (.int .i64 s.y0) (.int .i64 s.x1) (.int .i64 s.y1))
  case atStart => exact ⟨0, Nat.zero_le _, rfl, rfl, H1.out.2.1, H1.out.1, H1.out.2.2⟩
  case round =>
    obtain ⟨k, hk, rfl, rfl, hB, hO, h4⟩ := hrel
    have HB := hid (And.intro hB (And.intro hO h4))
    clear H1
    by_cases hlt : k < ni
    · have hlz : (k : Int) < (ni : Int) := by omega
      obtain ⟨x, hx⟩ : ∃ x, l[k]? = some x := ⟨_, List.getElem?_eq_getElem (by rw [H.out.2.2.1]; exact hlt)⟩
      have hv : V[k]? = some (inR s K x) := by rw [H.out.2.2.2.1, List.getElem?_map, hx]; rfl
      have HV := hid hv
      obtain ⟨rfl, e0⟩ := vi_at (H.out.1.below hB) hx
      have hkl : k < (partR V k).length := by rw [partR_len _ (by rw [H.out.2.2.2.2]; exact hk), H.out.2.2.2.2]; exact hlt
      obtain ⟨c0, c1, c2, c3, cf⟩ := id h4
      clear hB h4 hx hv
      by_cases hx1 : x = -1
      · subst hx1
        have hq := hid (show inR s K (-1) = s by unfold inR; rw [if_pos rfl])
        obtain ⟨r', g0, g1, g2, g3, f0, f1, f2, f3⟩ := Rg.ow_four0 hO hkl
        clear hO
        go_wp2
        go_roundg (ni - (k + 1))
        case measure => omega
        case rel =>
          refine ⟨k + 1, hlt, rfl, by simp, Rg.below_set4 HB.out.1 (by omega) _ _ _ _ _ _ _ _, ?_, has4_else HB.out.2.2 (but_set4 _ _ _ _ _ _ _ _ _ _) (by omega)⟩
          rw [← partR_set HV.out, hq.out]
          exact Rg.ow_set40 HB.out.2.1 hkl s
      · have hq : inR s K x = pickR K x := by unfold inR; rw [if_neg hx1]
        rw [hq] at HV
        clear hq hO c0 c1 c2 c3 cf
        go_wp2_with (go_at_call 42; with_reducible refine Calls.mono (pickR_any x ko kn kc kb koff K _ (Rg.Vz.below H.out.2.1 HB.out.1)) ?_; rintro e w1 ⟨rfl, hb⟩; have HC := hid (And.intro (via (w := w) HB.out.1 hb) (And.intro (Rg.Oz.below HB.out.2.1 hb) (HB.out.2.2.below hb))); obtain ⟨r', g0, g1, g2, g3, f0, f1, f2, f3⟩ := Rg.ow_four0 HC.out.2.1 hkl; clear hb)
        go_roundg (ni - (k + 1))
        case measure => omega
        case rel =>
          refine ⟨k + 1, hlt, rfl, by simp, Rg.below_set4 HC.out.1 (by omega) _ _ _ _ _ _ _ _, ?_, has4_else HC.out.2.2 (but_set4 _ _ _ _ _ _ _ _ _ _) (by omega)⟩
          rw [← partR_set HV.out]
          exact Rg.ow_set40 HC.out.2.1 hkl _
    · obtain rfl : k = ni := by omega
      have e : partR V k = V := by have := partR_all V; rw [H.out.2.2.2.2] at this; exact this
      rw [e] at HB
      clear hB hO h4 e
      go_wp2
      go_ret
      exact ⟨⟨_, _, _, _, _, rfl, HB.out.2.1.v⟩, HB.out.1⟩
end Go.Proofs.YteiihgoobhlkbaaDoor
