/- What a node needs, made for each input: the contract. -/
import Derived.Test.YtamojciiacmjaaaDoorNdEach
import Derived.Test.YtamojciiacmjaaaDoorRcMem
namespace Go.Proofs.YtamojciiacmjaaaDoor
open Num Go.RowKit
open Rg.Num (R empB orN nil moveR grow meet join mvd mx mn cutR Ok Pr boxQ)
set_option linter.unusedVariables false
set_option linter.unusedSimpArgs false

abbrev RR := Rg.Num.R
/-- four cells of a block stand where another block is written -/
theorem has4_else {w w' : World} {k g : Nat} {v0 v1 v2 v3 : Value} (h : Rg.Rc.Has4 w k v0 v1 v2 v3) (hb : But g w w') (hg : k ≠ g) : Rg.Rc.Has4 w' k v0 v1 v2 v3 := by
  have hk : k < w.heap.size := World.block_lt_of_cell? w ⟨k, 0, none⟩ h.c0
  have e := hb.block k hk hg
  have hc : ∀ j, w'.cell? ⟨k, j, none⟩ = w.cell? ⟨k, j, none⟩ := fun j => World.cell?_of_block (a := ⟨k, j, none⟩) e
  exact ⟨by rw [hc]; exact h.c0, by rw [hc]; exact h.c1, by rw [hc]; exact h.c2, by rw [hc]; exact h.c3, fun j => by rw [World.frozen?_of_block (a := ⟨k, j, none⟩) e]; exact h.fz j⟩
theorem but_set4 (w : World) (g p q r s : Nat) (u0 u1 u2 u3 : Value) : But g w ((((w.setCell ⟨g, p, none⟩ u0).setCell ⟨g, q, none⟩ u1).setCell ⟨g, r, none⟩ u2).setCell ⟨g, s, none⟩ u3) := but_set (but_set (but_set (but_set (But.refl _ _) _ _) _ _) _ _) _ _
theorem nb_else {w w' : World} {k g : Nat} {op : Int} {ai : Option Addr} {ni ci : Nat} {ap : Option Addr} {np cp : Nat} (h : Nb w k op ai ni ci ap np cp) (hb : But g w w') (hg : k ≠ g) : Nb w' k op ai ni ci ap np cp := by
  have hk : k < w.heap.size := World.block_lt_of_cell? w ⟨k, 0, none⟩ h.c0
  have e := hb.block k hk hg
  have hc : ∀ j, w'.cell? ⟨k, j, none⟩ = w.cell? ⟨k, j, none⟩ := fun j => World.cell?_of_block (a := ⟨k, j, none⟩) e
  exact ⟨(hc 0).trans h.c0, (hc 1).trans h.c1, (hc 2).trans h.c2⟩
def partR (V : List RR) (k : Nat) : List RR := V.take k ++ List.replicate (V.length - k) ⟨0, 0, 0, 0⟩
theorem partR_zero (V : List RR) : partR V 0 = Rg.zeros V.length := by unfold partR Rg.zeros; simp
theorem partR_all (V : List RR) : partR V V.length = V := by unfold partR; simp
theorem partR_len (V : List RR) {k : Nat} (hk : k ≤ V.length) : (partR V k).length = V.length := by unfold partR; simp; omega
theorem partR_set {V : List RR} {k : Nat} {v : RR} (h : V[k]? = some v) : (partR V k).set k v = partR V (k + 1) := by
  obtain ⟨hk, rfl⟩ := List.getElem?_eq_some_iff.1 h
  unfold partR
  have e : List.replicate (V.length - k) (⟨0, 0, 0, 0⟩ : RR) = ⟨0, 0, 0, 0⟩ :: List.replicate (V.length - (k + 1)) ⟨0, 0, 0, 0⟩ := by
    rw [show V.length - k = (V.length - (k + 1)) + 1 by omega, List.replicate_succ]
  rw [e, List.set_append_right _ _ (by simp; omega), List.take_succ_eq_append_getElem hk]
  have : k - (V.take k).length = 0 := by simp; omega
  rw [this]
  simp only [List.set_cons_zero, List.append_assoc, List.cons_append, List.nil_append]
theorem zeros_new {w : World} {B : Nat} (hB : B ≤ w.heap.size) (n : Nat) (hn : n ≤ 1000000) : Rg.Ow B (w.alloc (.cells (Rg.zeroCs n) 26)) (some ⟨w.heap.size, 0, none⟩) n n w.heap.size 0 (Rg.zeros n) := by
  have hz : (Rg.zeros n).length = n := by unfold Rg.zeros; simp
  have := Rg.ow_news (B := B) (w := w) hB (Rg.zeros n) (by omega) 26
  rw [hz] at this
  exact this

set_option maxRecDepth 100000 in
set_option maxHeartbeats 4000000 in
theorem of_any (op : Int) (hop : 1 ≤ op ∧ op ≤ 12) (ai : Option Addr) (ni ci bi oi : Nat) (l : List Int) (ap : Option Addr) (np cp bp ob : Nat) (p : List Int) (a b c d : Int) (w : World) (hi : Vi w ai ni ci bi oi l) (hni : ni ≤ 1000) (hp : Vi w ap np cp bp ob p) (hpr : Pr op (nth p)) (hok : Ok ⟨a, b, c, d⟩) :
    Calls Tryd.prog 12 #[.agg #[.int .i64 op, .slice ai ni ci, .slice ap np cp], .agg #[.int .i64 a, .int .i64 b, .int .i64 c, .int .i64 d]] w fun e w' => Rg.RetO w.heap.size w' e (List.replicate ni (needE op (nth p) ⟨a, b, c, d⟩)) ∧ Below w.heap.size w w' := by
  obtain ⟨W, hW⟩ : ∃ W, W = (w.alloc (.cells #[.int .i64 op, .slice ai ni ci, .slice ap np cp] 24)).alloc (.cells #[.int .i64 a, .int .i64 b, .int .i64 c, .int .i64 d] 26) := ⟨_, rfl⟩
  have hB : Below w.heap.size w W := by rw [hW]; exact ((Below.refl _ _).alloc (Nat.le_refl _) _).alloc (by simp) _
  have hn : Nb W w.heap.size op ai ni ci ap np cp := by rw [hW]; exact (nb_new w op ai ni ci ap np cp 24).below (al _)
  have C := each_any op hop ai ni ci ap np cp bp ob p a b c d W (hp.below hB) hpr hok
  obtain ⟨Z, hZ⟩ : ∃ Z, Z = needE op (nth p) ⟨a, b, c, d⟩ := ⟨_, rfl⟩
  rw [← hZ] at C ⊢
  rw [hW] at C hB hn
  have HC := hid (And.intro C (And.intro hB hn))
  have hm := Rg.run_zeros ni (by omega)
  clear C hB hn hW hZ hi hp hpr hok
  clear W
  go_enter Tryd.func12, Tryd.ntmps12
  go_wp2_with (go_at_call 26; with_reducible refine Calls.mono HC.out.1 ?_; rintro e w1 ⟨rfl, hb⟩; have H1 := hid (And.intro (via (w := w) HC.out.2.1 hb) (HC.out.2.2.below hb)); obtain ⟨n0, n1, n2⟩ := id H1.out.2; have jj : w.heap.size < w1.heap.size := World.block_lt_of_cell? _ _ n0; clear hb)
  have hB2 : Below w.heap.size w ((w1.alloc (.cells #[.int .i64 Z.x0, .int .i64 Z.y0, .int .i64 Z.x1, .int .i64 Z.y1] 26)).alloc (.cells (Rg.zeroCs ni) 26)) := via (w := w) H1.out.1 (((Below.refl _ _).alloc (Nat.le_refl _) _).alloc (by simp) _)
  have h4 : Rg.Rc.Has4 ((w1.alloc (.cells #[.int .i64 Z.x0, .int .i64 Z.y0, .int .i64 Z.x1, .int .i64 Z.y1] 26)).alloc (.cells (Rg.zeroCs ni) 26)) w1.heap.size (.int .i64 Z.x0) (.int .i64 Z.y0) (.int .i64 Z.x1) (.int .i64 Z.y1) := (Rg.Rc.Has4.new rfl _ _ _ _ _).below (al _)
  have hO : Rg.Ow w.heap.size ((w1.alloc (.cells #[.int .i64 Z.x0, .int .i64 Z.y0, .int .i64 Z.x1, .int .i64 Z.y1] 26)).alloc (.cells (Rg.zeroCs ni) 26)) (some ⟨w1.heap.size + 1, 0, none⟩) ni ni (w1.heap.size + 1) 0 (partR (List.replicate ni Z) 0) := by
    have := zeros_new (w := w1.alloc (.cells #[.int .i64 Z.x0, .int .i64 Z.y0, .int .i64 Z.x1, .int .i64 Z.y1] 26)) (B := w.heap.size) (by simp; omega) ni (by omega)
    rw [World.size_alloc] at this
    rw [partR_zero, List.length_replicate]
    exact this
  have H2 := hid (And.intro hB2 (And.intro h4 hO))
  have HJ := hid jj
  clear hB2 h4 hO n0 n1 n2 hm
  go_loopg [17] ni (fun g v17 wr => ∃ k : Nat, k ≤ ni ∧ g = ni - k ∧ v17 = .int .i64 k ∧ Below w.heap.size w wr ∧ Rg.Rc.Has4 wr w1.heap.size (.int .i64 Z.x0) (.int .i64 Z.y0) (.int .i64 Z.x1) (.int .i64 Z.y1) ∧ Rg.Ow w.heap.size wr (some ⟨w1.heap.size + 1, 0, none⟩) ni ni (w1.heap.size + 1) 0 (partR (List.replicate ni Z) k))
  case atStart => exact ⟨0, Nat.zero_le _, rfl, rfl, H2.out.1, H2.out.2.1, H2.out.2.2⟩
  case round =>
    obtain ⟨k, hk, rfl, rfl, hB, h4, hO⟩ := hrel
    have HB := hid (And.intro hB (And.intro h4 hO))
    clear H2
    by_cases hlt : k < ni
    · have hlz : (k : Int) < (ni : Int) := by omega
      have hkl : k < (partR (List.replicate ni Z) k).length := by rw [partR_len _ (by simp; omega), List.length_replicate]; exact hlt
      obtain ⟨r', g0, g1, g2, g3, f0, f1, f2, f3⟩ := Rg.ow_four0 hO hkl
      obtain ⟨c0, c1, c2, c3, cf⟩ := h4
      clear hB hO
      go_wp2
      go_roundg (ni - (k + 1))
      case measure => omega
      case rel =>
        refine ⟨k + 1, hlt, rfl, by simp, Rg.below_set4 HB.out.1 (by have := HJ.out; omega) _ _ _ _ _ _ _ _, has4_else HB.out.2.1 (but_set4 _ _ _ _ _ _ _ _ _ _) (by omega), ?_⟩
        rw [← partR_set (show (List.replicate ni Z)[k]? = some Z by rw [List.getElem?_replicate, if_pos hlt])]
        exact Rg.ow_set40 HB.out.2.2 hkl Z
    · obtain rfl : k = ni := by omega
      have e : partR (List.replicate k Z) k = List.replicate k Z := by have := partR_all (List.replicate k Z); rw [List.length_replicate] at this; exact this
      rw [e] at HB
      clear hB h4 hO e
      go_wp2
      go_ret
      exact ⟨⟨_, _, _, _, _, rfl, HB.out.2.2⟩, HB.out.1⟩
end Go.Proofs.YtamojciiacmjaaaDoor
