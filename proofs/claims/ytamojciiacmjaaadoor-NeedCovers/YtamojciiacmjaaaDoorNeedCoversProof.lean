/- For every right filter of few nodes, and every rectangle: of each needed node as much is known as each node that has it as an input needs of it; of others nothing is asked. -/
import Derived.Test.YtamojciiacmjaaaDoorRows
import Derived.Test.YtamojciiacmjaaaDoorCards
import Derived.Test.YtamojciiacmjaaaDoorTie
import Derived.WalkKit
import Derived.ProofKit
import Derived.OpenShut
import Derived.LaidMore
import Derived.SevenTiedAt
import Derived.Stop.Joined
import Derived.Test.YtamojciiacmjaaaDoorNdOpen
namespace Go.Proofs.YtamojciiacmjaaaDoor.needCovers
open Go Go.ChangeShapes Go.WideShapes Go.ChangeAt Go.RowKit Num
open Rg.Num (R empB orN nil moveR grow meet join mvd mx mn cutR Ok Pr boxQ hasB rightB)
set_option linter.unusedVariables false
set_option linter.unusedSimpArgs false
attribute [local go_sem ↓] Rg.eqR
attribute [local go_sem] Rg.eq4_same

abbrev S5 (w : World) (ao : Option Addr) (n c : Nat) (out : Int) (p q r s : Int) (kl ko : Nat) (u : R) (w' : World) : Prop := (w'.cell? ⟨w.heap.size, 0, none⟩ = some (.slice ao n c) ∧ w'.cell? ⟨w.heap.size, 1, none⟩ = some (.int .i64 out) ∧ w'.cell? ⟨w.heap.size + 1, 0, none⟩ = some (.int .i64 p) ∧ w'.cell? ⟨w.heap.size + 1, 1, none⟩ = some (.int .i64 q) ∧ w'.cell? ⟨w.heap.size + 1, 2, none⟩ = some (.int .i64 r) ∧ w'.cell? ⟨w.heap.size + 1, 3, none⟩ = some (.int .i64 s) ∧ w'.cell? ⟨kl, ko, none⟩ = some (.int .i64 u.x0) ∧ w'.cell? ⟨kl, ko + 1, none⟩ = some (.int .i64 u.y0) ∧ w'.cell? ⟨kl, ko + 2, none⟩ = some (.int .i64 u.x1) ∧ w'.cell? ⟨kl, ko + 3, none⟩ = some (.int .i64 u.y1)) ∧ Below w.heap.size w w'
theorem s5_below {w : World} {ao : Option Addr} {n c : Nat} {out : Int} {p q r s : Int} {kl ko : Nat} {u : R} {w1 w2 : World} (h : S5 w ao n c out p q r s kl ko u w1) (hb : Below w1.heap.size w1 w2) : S5 w ao n c out p q r s kl ko u w2 := by
  obtain ⟨⟨h0, h1, h2, h3, h4, h5, h6, h7, h8, h9⟩, hB⟩ := h
  exact ⟨⟨cell_below hb h0, cell_below hb h1, cell_below hb h2, cell_below hb h3, cell_below hb h4, cell_below hb h5, cell_below hb h6, cell_below hb h7, cell_below hb h8, cell_below hb h9⟩, via hB hb⟩
theorem s5_drew {w : World} {ao : Option Addr} {n c : Nat} {out : Int} {p q r s : Int} {kl ko : Nat} {u : R} {w1 : World} (h : S5 w ao n c out p q r s kl ko u w1) : S5 w ao n c out p q r s kl ko u w1.drew := s5_below h (Below.refl _ _).drew
abbrev S9 (w : World) (b o d : Nat) (u v : R) (w' : World) : Prop := (w'.cell? ⟨b, o, none⟩ = some (.int .i64 u.x0) ∧ w'.cell? ⟨b, o + 1, none⟩ = some (.int .i64 u.y0) ∧ w'.cell? ⟨b, o + 2, none⟩ = some (.int .i64 u.x1) ∧ w'.cell? ⟨b, o + 3, none⟩ = some (.int .i64 u.y1) ∧ w'.cell? ⟨d, 0, none⟩ = some (.int .i64 v.x0) ∧ w'.cell? ⟨d, 1, none⟩ = some (.int .i64 v.y0) ∧ w'.cell? ⟨d, 2, none⟩ = some (.int .i64 v.x1) ∧ w'.cell? ⟨d, 3, none⟩ = some (.int .i64 v.y1)) ∧ Below w.heap.size w w'
theorem s9_below {w : World} {b o d : Nat} {u v : R} {w1 w2 : World} (h : S9 w b o d u v w1) (hb : Below w1.heap.size w1 w2) : S9 w b o d u v w2 := by
  obtain ⟨⟨h0, h1, h2, h3, h4, h5, h6, h7⟩, hB⟩ := h
  exact ⟨⟨cell_below hb h0, cell_below hb h1, cell_below hb h2, cell_below hb h3, cell_below hb h4, cell_below hb h5, cell_below hb h6, cell_below hb h7⟩, via hB hb⟩
theorem s9_drew {w : World} {b o d : Nat} {u v : R} {w1 : World} (h : S9 w b o d u v w1) : S9 w b o d u v w1.drew := s9_below h (Below.refl _ _).drew

/-- what stands while the law looks -/
structure Cv (w wr : World) (ao : Option Addr) (n c : Nat) (out : Int) (p q r s : Int) (kl sb : Nat) (K : List R) (S : R) (to : Option Addr) (tc tb toff : Nat) (N : List Bool) : Prop where
  g : Lg w wr ao n c out p q r s
  l : Rg.Ow w.heap.size wr (some ⟨kl, 0, none⟩) n n kl 0 K
  s : Rg.Rc.Has4 wr sb (.int .i64 S.x0) (.int .i64 S.y0) (.int .i64 S.x1) (.int .i64 S.y1)
  t : Ot w.heap.size wr to n tc tb toff N
theorem Cv.to {w wr w' : World} {ao : Option Addr} {n c : Nat} {out : Int} {p q r s : Int} {kl sb : Nat} {K : List R} {S : R} {to : Option Addr} {tc tb toff : Nat} {N : List Bool} (h : Cv w wr ao n c out p q r s kl sb K S to tc tb toff N) (hb : Below wr.heap.size wr w') : Cv w w' ao n c out p q r s kl sb K S to tc tb toff N := ⟨h.g.to hb, h.l.below hb, h.s.below hb, h.t.below hb⟩
theorem bt_get {N : List Bool} {i : Nat} (h : i < N.length) : N[i]? = some (bt N i) := by unfold bt; rw [List.getD_eq_getElem?_getD, List.getElem?_eq_getElem h]; rfl

set_option maxRecDepth 100000 in
set_option maxHeartbeats 4000000 in
theorem walk (ao : Option Addr) (n c b off : Nat) (L : List Nv) (out : Int) (p q r s : Int) (w : World) (h : Vn w ao n c b off L) (hT : Tabs w) :
    Calls Tryd.prog 5 #[.agg #[.slice ao n c, .int .i64 out], .agg #[.int .i64 p, .int .i64 q, .int .i64 r, .int .i64 s]] w fun e w' => e = .returned (.bool true) ∧ Below w.heap.size w w' := by
  have hl := vn_len h
  have HS := hid (lg_new w ao n c out p q r s)
  have HV := hid h
  have HT := hid hT
  have HL := hid hl
  clear h hT
  rcases hr : rightG L out with _ | _
  · have HR := hid hr
    clear hr hl
    go_enter Tryd.func5, Tryd.ntmps5
    go_wp2_with (first
      | (go_at_call 8; with_reducible refine Calls.mono (awake_any _) ?_; rintro e wa ⟨rfl, hb⟩; replace HS := hid (HS.out.to hb); (try clear x0c x1c a0 a1 a2 a3 af); obtain ⟨x0c, x1c⟩ := HS.out.g.1; obtain ⟨a0, a1, a2, a3, af⟩ := id HS.out.s; (try clear jn j1); have jn := World.block_lt_of_cell? _ _ x0c; have j1 := World.block_lt_of_cell? _ _ a0; clear hb)
      | (go_at_call 14; with_reducible refine Calls.mono (right_any _ _ _ b off L _ _ (HT.out.below HS.out.low) (HV.out.below HS.out.low)) ?_; rintro e wa ⟨rfl, hb⟩; rw [HR.out]; replace HS := hid (HS.out.to hb); (try clear x0c x1c a0 a1 a2 a3 af); obtain ⟨x0c, x1c⟩ := HS.out.g.1; obtain ⟨a0, a1, a2, a3, af⟩ := id HS.out.s; (try clear jn j1); have jn := World.block_lt_of_cell? _ _ x0c; have j1 := World.block_lt_of_cell? _ _ a0; clear hb))
    go_ret
    exact ⟨rfl, HS.out.low⟩
  have hrf := rf_of hl hr
  have HR := hid hr
  have HF := hid hrf
  clear hr hrf hl
  rcases ho : rightB ⟨p, q, r, s⟩ with _ | _
  · have HO := hid ho
    clear ho
    go_enter Tryd.func5, Tryd.ntmps5
    go_wp2_with (first
      | (go_at_call 8; with_reducible refine Calls.mono (awake_any _) ?_; rintro e wa ⟨rfl, hb⟩; replace HS := hid (HS.out.to hb); (try clear x0c x1c a0 a1 a2 a3 af); obtain ⟨x0c, x1c⟩ := HS.out.g.1; obtain ⟨a0, a1, a2, a3, af⟩ := id HS.out.s; (try clear jn j1); have jn := World.block_lt_of_cell? _ _ x0c; have j1 := World.block_lt_of_cell? _ _ a0; clear hb)
      | (go_at_call 14; with_reducible refine Calls.mono (right_any _ _ _ b off L _ _ (HT.out.below HS.out.low) (HV.out.below HS.out.low)) ?_; rintro e wa ⟨rfl, hb⟩; rw [HR.out]; replace HS := hid (HS.out.to hb); (try clear x0c x1c a0 a1 a2 a3 af); obtain ⟨x0c, x1c⟩ := HS.out.g.1; obtain ⟨a0, a1, a2, a3, af⟩ := id HS.out.s; (try clear jn j1); have jn := World.block_lt_of_cell? _ _ x0c; have j1 := World.block_lt_of_cell? _ _ a0; clear hb)
      | (go_at_call 10; with_reducible refine Calls.mono (Rg.Rc.right_any p q r s _) ?_; rintro e wa ⟨rfl, hb⟩; rw [HO.out]; replace HS := hid (HS.out.to hb); (try clear x0c x1c a0 a1 a2 a3 af); obtain ⟨x0c, x1c⟩ := HS.out.g.1; obtain ⟨a0, a1, a2, a3, af⟩ := id HS.out.s; (try clear jn j1); have jn := World.block_lt_of_cell? _ _ x0c; have j1 := World.block_lt_of_cell? _ _ a0; clear hb))
    go_ret
    exact ⟨rfl, HS.out.low⟩
  have HO := hid ho
  have HK := hid (ok_right ho)
  have hn1 := HF.out.f.n
  clear ho
  obtain ⟨o, ho⟩ : ∃ o : Nat, out = (o : Int) := ⟨out.toNat, by have := HF.out.o; omega⟩
  subst ho
  have hon : o < n := by have := HF.out.o; omega
  have honz : (o : Int) < (n : Int) := by omega
  have hsol := run_sol HL.out HF.out HK.out
  have hrok := run_ok HL.out HF.out HK.out
  have hrl := run_len HL.out HF.out HK.out
  have hW1 : winB ⟨p, q, r, s⟩ (fK (runN L (o : Int) ⟨p, q, r, s⟩).1 o) = true := (win_iff _ _).2 ((hsol.node o (by rw [HL.out]; exact hon)).1 _ (Or.inl ⟨rfl, rfl⟩))
  have hW2 : ∀ i, i < n → ¬ Rch (insL L) (o : Int) i → fK (runN L (o : Int) ⟨p, q, r, s⟩).1 i = nil := fun i hi => sol_none HF.out.a hsol i (by rw [HL.out]; exact hi)
  have hW3 : ∀ i v x, L[i]? = some v → x ∈ v.l → (x = -1 → winB (needV v (fK (runN L (o : Int) ⟨p, q, r, s⟩).1 i)) (runN L (o : Int) ⟨p, q, r, s⟩).2 = true) ∧ ∀ y : Nat, x = (y : Int) → y < n → winB (needV v (fK (runN L (o : Int) ⟨p, q, r, s⟩).1 i)) (fK (runN L (o : Int) ⟨p, q, r, s⟩).1 y) = true := fun i v x hv hx =>
    ⟨fun e => (win_iff _ _).2 ((sol_covers hsol hv hx).1 e), fun y e hy => (win_iff _ _).2 ((sol_covers hsol hv hx).2 y e (by rw [HL.out]; exact hy))⟩
  have HW := hid (And.intro hW1 (And.intro hW2 (And.intro hW3 (And.intro hrok hrl))))
  clear hsol hrok hrl hW1 hW2 hW3
  go_enter Tryd.func5, Tryd.ntmps5
  go_wp2_with (first
    | (go_at_call 8; with_reducible refine Calls.mono (awake_any _) ?_; rintro e wa ⟨rfl, hb⟩; replace HS := hid (HS.out.to hb); (try clear x0c x1c a0 a1 a2 a3 af); obtain ⟨x0c, x1c⟩ := HS.out.g.1; obtain ⟨a0, a1, a2, a3, af⟩ := id HS.out.s; (try clear jn j1); have jn := World.block_lt_of_cell? _ _ x0c; have j1 := World.block_lt_of_cell? _ _ a0; clear hb)
    | (go_at_call 14; with_reducible refine Calls.mono (right_any _ _ _ b off L _ _ (HT.out.below HS.out.low) (HV.out.below HS.out.low)) ?_; rintro e wa ⟨rfl, hb⟩; rw [HR.out]; replace HS := hid (HS.out.to hb); (try clear x0c x1c a0 a1 a2 a3 af); obtain ⟨x0c, x1c⟩ := HS.out.g.1; obtain ⟨a0, a1, a2, a3, af⟩ := id HS.out.s; (try clear jn j1); have jn := World.block_lt_of_cell? _ _ x0c; have j1 := World.block_lt_of_cell? _ _ a0; clear hb)
    | (go_at_call 10; with_reducible refine Calls.mono (Rg.Rc.right_any p q r s _) ?_; rintro e wa ⟨rfl, hb⟩; rw [HO.out]; replace HS := hid (HS.out.to hb); (try clear x0c x1c a0 a1 a2 a3 af); obtain ⟨x0c, x1c⟩ := HS.out.g.1; obtain ⟨a0, a1, a2, a3, af⟩ := id HS.out.s; (try clear jn j1); have jn := World.block_lt_of_cell? _ _ x0c; have j1 := World.block_lt_of_cell? _ _ a0; clear hb)
    | (go_at_call 15; with_reducible refine Calls.mono (all_c (HV.out.below HS.out.low) HF.out HK.out) ?_; rintro e wl ⟨kl, rfl, hO, hb⟩; have H1 := hO; have HL0 := hid HS.out.low.size; replace HS := hid (HS.out.to hb); (try clear x0c x1c a0 a1 a2 a3 af); obtain ⟨x0c, x1c⟩ := HS.out.g.1; obtain ⟨a0, a1, a2, a3, af⟩ := id HS.out.s; (try clear jn j1); have jn := World.block_lt_of_cell? _ _ x0c; have j1 := World.block_lt_of_cell? _ _ a0; clear hb; clear hO)
    | (go_at_call 17; with_reducible refine Calls.mono (refNeed_any ao n c b off L (o : Int) _ (HV.out.below (via (w := w) HS.out.low (al _))) HF.out.f) ?_; rintro e wm ⟨hN, hb⟩; obtain ⟨N, hNr, hNd⟩ := hN; obtain ⟨to, tn, tc, tb, toff, rfl, hT0⟩ := retT hNr; have HNd := hid hNd; have HL1 := hid (via (w := w) HS.out.low (al (.cells #[.int .i64 (runN L (o : Int) ⟨p, q, r, s⟩).2.x0, .int .i64 (runN L (o : Int) ⟨p, q, r, s⟩).2.y0, .int .i64 (runN L (o : Int) ⟨p, q, r, s⟩).2.x1, .int .i64 (runN L (o : Int) ⟨p, q, r, s⟩).2.y1] 26))).size; have HT0 := hid hT0; have HB2 := hid (via (al _) hb); have H3 := hid ((Rg.Rc.Has4.new (W := wl) (k := wl.heap.size) rfl (.int .i64 (runN L (o : Int) ⟨p, q, r, s⟩).2.x0) (.int .i64 (runN L (o : Int) ⟨p, q, r, s⟩).2.y0) (.int .i64 (runN L (o : Int) ⟨p, q, r, s⟩).2.x1) (.int .i64 (runN L (o : Int) ⟨p, q, r, s⟩).2.y1) 26).below hb); replace HS := hid (HS.out.to HB2.out); clear hNr hNd hT0 hb x0c x1c a0 a1 a2 a3 af jn j1))
  have hTn : tn = n := by have h1 := vt_len HT0.out.v; have h2 := HNd.out.len; rw [insL_len, HL.out] at h2; omega
  subst hTn
  have hC : Cv w wm ao tn c (o : Int) p q r s kl wl.heap.size (runN L (o : Int) ⟨p, q, r, s⟩).1 (runN L (o : Int) ⟨p, q, r, s⟩).2 to tc tb toff N := ⟨HS.out, (H1.out.below HB2.out).mono HL0.out, H3.out, HT0.out.mono HL1.out⟩
  have HC := hid hC
  have hkl : o < (runN L (o : Int) ⟨p, q, r, s⟩).1.length := by rw [HW.out.2.2.2.2]; exact hon
  obtain ⟨-, c0, c1, c2, c3⟩ := Rg.vw_at hC.l.v (fK_get hkl)
  rw [Nat.zero_add] at c0 c1 c2 c3
  have hS5 : S5 w ao tn c (o : Int) p q r s kl (o * 4) (fK (runN L (o : Int) ⟨p, q, r, s⟩).1 o) wm := ⟨⟨hC.g.g.1.1, hC.g.g.1.2, hC.g.s.c0, hC.g.s.c1, hC.g.s.c2, hC.g.s.c3, c0, c1, c2, c3⟩, hC.g.low⟩
  have HB := hid (Below.refl wm.heap.size wm).drew
  clear hC c0 c1 c2 c3 hkl
  go_region_held3 (fun w' => (w'.cell? ⟨w.heap.size, 0, none⟩ = some (.slice ao tn c) ∧ w'.cell? ⟨w.heap.size, 1, none⟩ = some (.int .i64 (o : Int)) ∧ w'.cell? ⟨w.heap.size + 1, 0, none⟩ = some (.int .i64 p) ∧ w'.cell? ⟨w.heap.size + 1, 1, none⟩ = some (.int .i64 q) ∧ w'.cell? ⟨w.heap.size + 1, 2, none⟩ = some (.int .i64 r) ∧ w'.cell? ⟨w.heap.size + 1, 3, none⟩ = some (.int .i64 s) ∧ w'.cell? ⟨kl, o * 4, none⟩ = some (.int .i64 (fK (runN L (o : Int) ⟨p, q, r, s⟩).1 o).x0) ∧ w'.cell? ⟨kl, o * 4 + 1, none⟩ = some (.int .i64 (fK (runN L (o : Int) ⟨p, q, r, s⟩).1 o).y0) ∧ w'.cell? ⟨kl, o * 4 + 2, none⟩ = some (.int .i64 (fK (runN L (o : Int) ⟨p, q, r, s⟩).1 o).x1) ∧ w'.cell? ⟨kl, o * 4 + 3, none⟩ = some (.int .i64 (fK (runN L (o : Int) ⟨p, q, r, s⟩).1 o).y1)) ∧ Below w.heap.size w w') (repeat (first | with_reducible assumption | with_reducible refine s5_drew ?_ | with_reducible refine s5_below ?_ ‹_›)) ((first
    | (go_at_call 18; with_reducible refine Calls.mono (refWithin_any p q r s (fK (runN L (o : Int) ⟨p, q, r, s⟩).1 o).x0 (fK (runN L (o : Int) ⟨p, q, r, s⟩).1 o).y0 (fK (runN L (o : Int) ⟨p, q, r, s⟩).1 o).x1 (fK (runN L (o : Int) ⟨p, q, r, s⟩).1 o).y1 _ HK.out) ?_; rintro e wq ⟨rfl, hb5⟩; rw [show winB ⟨p, q, r, s⟩ ⟨(fK (runN L (o : Int) ⟨p, q, r, s⟩).1 o).x0, (fK (runN L (o : Int) ⟨p, q, r, s⟩).1 o).y0, (fK (runN L (o : Int) ⟨p, q, r, s⟩).1 o).x1, (fK (runN L (o : Int) ⟨p, q, r, s⟩).1 o).y1⟩ = true from HW.out.1]; replace HB := hid (via HB.out hb5))))
  replace HC := hid (HC.out.to HB.out)
  clear hS5
  go_wp2
  go_loopg [8, 9, 10, 11] tn (fun g v8 v9 v10 v11 wr => ∃ i : Nat, i ≤ tn ∧ g = tn - i ∧ v8 = .int .i64 i ∧ Cv w wr ao tn c (o : Int) p q r s kl wl.heap.size (runN L (o : Int) ⟨p, q, r, s⟩).1 (runN L (o : Int) ⟨p, q, r, s⟩).2 to tc tb toff N)
  case atStart => exact ⟨0, Nat.zero_le _, rfl, rfl, HC.out⟩
  case round =>
    obtain ⟨i, hi, rfl, rfl, hC⟩ := hrel
    clear HC
    have HC := hid hC
    by_cases hlt : i < tn
    case neg =>
      obtain rfl : i = tn := by omega
      obtain ⟨g0, g1⟩ := hC.g.g.1
      clear hC
      go_wp2
      go_ret
      exact ⟨rfl, HC.out.g.low⟩
    have hiz : (i : Int) < (tn : Int) := by omega
    have hki : i < (runN L (o : Int) ⟨p, q, r, s⟩).1.length := by rw [HW.out.2.2.2.2]; exact hlt
    obtain ⟨-, c0, c1, c2, c3⟩ := Rg.vw_at hC.l.v (fK_get hki)
    rw [Nat.zero_add] at c0 c1 c2 c3
    obtain ⟨v, hv⟩ : ∃ v, L[i]? = some v := ⟨_, List.getElem?_eq_getElem (by rw [HL.out]; exact hlt)⟩
    have hvm := List.mem_of_getElem? hv
    obtain ⟨rfl, ⟨m0, m1, m2⟩, hvi, hvp⟩ := vn_at (HV.out.below hC.g.low) hv
    have hni1 := HF.out.f.i v hvm
    obtain ⟨rfl, b0⟩ := vt_at hC.t.v (bt_get (show i < N.length by have h1 := vt_len hC.t.v; omega))
    have hcase : bt N i = true ∨ (bt N i = false ∧ fK (runN L (o : Int) ⟨p, q, r, s⟩).1 i = nil) := by
      cases hb : bt N i with
      | true => exact Or.inl rfl
      | false =>
        refine Or.inr ⟨rfl, HW.out.2.1 i hlt fun hr => ?_⟩
        rw [(HNd.out.iff i (by rw [insL_len, HL.out]; exact hlt)).2 hr] at hb
        cases hb
    obtain ⟨g0, g1⟩ := hC.g.g.1
    have HX := hid (And.intro hvi (And.intro hni1 (And.intro hvp (And.intro (HF.out.r v hvm) (And.intro (vi_len hvi) hv)))))
    have HIn := hid (HF.out.i v hvm)
    obtain ⟨U, hU⟩ : ∃ U, U = fK (runN L (o : Int) ⟨p, q, r, s⟩).1 i := ⟨_, rfl⟩
    have hUo : Ok ⟨U.x0, U.y0, U.x1, U.y1⟩ := by rw [hU]; exact fK_ok HW.out.2.2.2.1.k i
    have HUo := hid hUo
    have HU := hid hU
    have HE := hid (rn_e (HF.out.r v hvm) U)
    rw [← hU] at c0 c1 c2 c3 hcase
    have hSk : Sk w (some ⟨b, off, none⟩) tn c b (off + i * 3) v.op v.ai v.ni v.ci v.ap v.np v.cp kl (i * 4) U wr := ⟨⟨g0, m0, m1, m2, c0, c1, c2, c3⟩, hC.g.low⟩
    have HSk := hid hSk
    have hjj : b < wr.heap.size := World.block_lt_of_cell? _ _ m0
    have hj2 : kl < wr.heap.size := World.block_lt_of_cell? _ _ c0
    clear hvi hvp hvm hv hU hUo hC m0 m1 m2 hSk
    have main : ∀ x : Bool, x = bt N i → (x = true ∨ (x = false ∧ U = nil)) → True := fun _ _ _ => trivial
    clear main
    rcases hcase with hbt | ⟨hbt, hUn⟩
    · rw [hbt] at b0
      clear hbt
      have HB := hid (Below.refl wr.heap.size wr).drew
      obtain ⟨hS0, -⟩ := HSk.out
      have hSkk := HSk.out
      clear hS0
      go_wp2
      go_region_held3 (fun w' => (w'.cell? ⟨w.heap.size, 0, none⟩ = some (.slice (some ⟨b, off, none⟩) tn c) ∧ w'.cell? ⟨b, off + i * 3, none⟩ = some (.int .i64 v.op) ∧ w'.cell? ⟨b, off + i * 3 + 1, none⟩ = some (.slice v.ai v.ni v.ci) ∧ w'.cell? ⟨b, off + i * 3 + 2, none⟩ = some (.slice v.ap v.np v.cp) ∧ w'.cell? ⟨kl, i * 4, none⟩ = some (.int .i64 U.x0) ∧ w'.cell? ⟨kl, i * 4 + 1, none⟩ = some (.int .i64 U.y0) ∧ w'.cell? ⟨kl, i * 4 + 2, none⟩ = some (.int .i64 U.x1) ∧ w'.cell? ⟨kl, i * 4 + 3, none⟩ = some (.int .i64 U.y1)) ∧ Below w.heap.size w w') (repeat (first | with_reducible assumption | with_reducible refine sk_drew ?_ | with_reducible refine sk_below ?_ ‹_›)) ((first
        | (go_at_call 12; with_reducible refine Calls.mono (of_any v.op HX.out.2.2.2.1.k v.ai v.ni v.ci v.bi v.oi v.l v.ap v.np v.cp v.bp v.ob v.p U.x0 U.y0 U.x1 U.y1 _ (HX.out.1.below HB.out) HX.out.2.1 (HX.out.2.2.1.below HB.out) HX.out.2.2.2.1.pr HUo.out) ?_; rintro e w2 ⟨hrr, hb2⟩; obtain ⟨xo, xn, xc, xb, xoff, rfl, hO⟩ := Rg.retO hrr; have H2 := hid (And.intro hO (via HB.out hb2)))))
      have hxn : xn = v.ni := by have := Rg.vw_len H2.out.1.v; rw [List.length_replicate] at this; exact this.symm
      subst hxn
      have e5 : List.replicate v.ni (needE v.op (nth v.p) ⟨U.x0, U.y0, U.x1, U.y1⟩) = List.replicate v.ni (needV v U) := by have h1 := HE.out; rw [HX.out.2.2.2.2.1] at h1; exact h1
      have hO5 := H2.out.1
      rw [e5] at hO5
      have hCC := HC.out.to H2.out.2
      have HCC := hid (And.intro hCC (hO5.mono (show w.heap.size ≤ wr.drew.heap.size from HC.out.g.low.size)))
      clear e5 hO5 hCC hSkk hrr hb2 hO b0 c0 c1 c2 c3 g0 g1 HC H2
      go_wp2
      go_loopg [10, 11] v.ni (fun g v10 v11 wr => ∃ k : Nat, k ≤ v.ni ∧ g = v.ni - k ∧ v10 = .int .i64 k ∧ Cv w wr (some ⟨b, off, none⟩) tn c (o : Int) p q r s kl wl.heap.size (runN L (o : Int) ⟨p, q, r, s⟩).1 (runN L (o : Int) ⟨p, q, r, s⟩).2 (some ⟨tb, toff, none⟩) tc tb toff N ∧ Rg.Ow w.heap.size wr xo v.ni xc xb xoff (List.replicate v.ni (needV v U)))
      case atStart => exact ⟨0, Nat.zero_le _, rfl, rfl, HCC.out.1, HCC.out.2⟩
      case round =>
        obtain ⟨k, hk, rfl, rfl, hC2, hO2⟩ := hrel
        have HC2 := hid hC2
        have HO2 := hid hO2
        clear HCC
        by_cases hltk : k < v.ni
        case neg =>
          obtain rfl : v.ni = k := by omega
          clear hC2 hO2
          go_wp2
          go_roundg (tn - (i + 1))
          case measure => omega
          case rel => exact ⟨i + 1, hlt, rfl, by simp, HC2.out⟩
        have hkz : (k : Int) < (v.ni : Int) := by omega
        obtain ⟨x, hx⟩ : ∃ x, v.l[k]? = some x := ⟨_, List.getElem?_eq_getElem (by rw [HX.out.2.2.2.2.1]; exact hltk)⟩
        have HXm := hid (List.mem_of_getElem? hx)
        obtain ⟨-, ⟨m0, m1, m2⟩, hvi, hvp⟩ := vn_at (HV.out.below hC2.g.low) HX.out.2.2.2.2.2
        obtain ⟨hai, x0⟩ := vi_at hvi hx
        rw [hai] at m1
        clear hai hvi hvp
        obtain ⟨rfl, y0, y1, y2, y3⟩ := Rg.vw_at hO2.v (show (List.replicate v.ni (needV v U))[k]? = some (needV v U) by rw [List.getElem?_replicate, if_pos hltk])
        obtain ⟨g0, g1⟩ := hC2.g.g.1
        obtain ⟨e0, e1, e2, e3, ef⟩ := id hC2.s
        have q0 : w.heap.size < wr.heap.size := World.block_lt_of_cell? _ _ g0
        have q1 : b < wr.heap.size := World.block_lt_of_cell? _ _ m1
        have q2 : v.bi < wr.heap.size := World.block_lt_of_cell? _ _ x0
        have q3 : xb < wr.heap.size := World.block_lt_of_cell? _ _ y0
        have q4 : wl.heap.size < wr.heap.size := World.block_lt_of_cell? _ _ e0
        rcases HIn.out x HXm.out with hx1 | hx1
        · subst hx1
          have d0 := e0
          have d1 := e1
          have d2 := e2
          have d3 := e3
          clear e0 e1 e2 e3 ef
          obtain ⟨T, hT⟩ : ∃ T, T = (runN L (o : Int) ⟨p, q, r, s⟩).2 := ⟨_, rfl⟩
          obtain ⟨M, hM⟩ : ∃ M, M = needV v U := ⟨_, rfl⟩
          have hwin : winB ⟨M.x0, M.y0, M.x1, M.y1⟩ ⟨T.x0, T.y0, T.x1, T.y1⟩ = true := by rw [hM, hT, HU.out]; exact (HW.out.2.2.1 i v (-1) HX.out.2.2.2.2.2 HXm.out).1 rfl
          have hMo : Ok ⟨M.x0, M.y0, M.x1, M.y1⟩ := by rw [hM]; exact ok_needA HX.out.2.2.2.1.pr HUo.out
          rw [← hT] at d0 d1 d2 d3
          rw [← hM] at y0 y1 y2 y3
          have HWin := hid (And.intro hwin hMo)
          have hB9 := al (W := wr) (.cells #[.int .i64 T.x0, .int .i64 T.y0, .int .i64 T.x1, .int .i64 T.y1] 26)
          have h94 := Rg.Rc.Has4.new (W := wr) (k := wr.heap.size) rfl (.int .i64 T.x0) (.int .i64 T.y0) (.int .i64 T.x1) (.int .i64 T.y1) 26
          have hS9 : S9 wr xb (xoff + k * 4) wr.heap.size M T (wr.alloc (.cells #[.int .i64 T.x0, .int .i64 T.y0, .int .i64 T.x1, .int .i64 T.y1] 26)) := ⟨⟨cell_below hB9 y0, cell_below hB9 y1, cell_below hB9 y2, cell_below hB9 y3, h94.c0, h94.c1, h94.c2, h94.c3⟩, hB9⟩
          have HB9 := hid hB9.drew
          clear hT hM hwin hMo hB9 h94 hC2 hO2
          go_wp2
          go_region_held3 (fun w' => (w'.cell? ⟨xb, xoff + k * 4, none⟩ = some (.int .i64 M.x0) ∧ w'.cell? ⟨xb, xoff + k * 4 + 1, none⟩ = some (.int .i64 M.y0) ∧ w'.cell? ⟨xb, xoff + k * 4 + 2, none⟩ = some (.int .i64 M.x1) ∧ w'.cell? ⟨xb, xoff + k * 4 + 3, none⟩ = some (.int .i64 M.y1) ∧ w'.cell? ⟨wr.heap.size, 0, none⟩ = some (.int .i64 T.x0) ∧ w'.cell? ⟨wr.heap.size, 1, none⟩ = some (.int .i64 T.y0) ∧ w'.cell? ⟨wr.heap.size, 2, none⟩ = some (.int .i64 T.x1) ∧ w'.cell? ⟨wr.heap.size, 3, none⟩ = some (.int .i64 T.y1)) ∧ Below wr.heap.size wr w') (repeat (first | with_reducible assumption | with_reducible refine s9_drew ?_ | with_reducible refine s9_below ?_ ‹_›)) ((first
            | (go_at_call 18; with_reducible refine Calls.mono (refWithin_any M.x0 M.y0 M.x1 M.y1 T.x0 T.y0 T.x1 T.y1 _ HWin.out.2) ?_; rintro e wz ⟨rfl, hb9⟩; rw [HWin.out.1]; replace HB9 := hid (via HB9.out hb9))))
          go_wp2
          go_roundg (v.ni - (k + 1))
          case measure => omega
          case rel => exact ⟨k + 1, hltk, rfl, by simp, HC2.out.to HB9.out, HO2.out.below HB9.out⟩
        · obtain ⟨y, rfl⟩ : ∃ y : Nat, x = (y : Int) := ⟨x.toNat, by omega⟩
          have hyn : y < tn := by omega
          have hyz : (y : Int) < (tn : Int) := by omega
          have hy0 : (0 : Int) ≤ (y : Int) := by omega
          obtain ⟨-, d0, d1, d2, d3⟩ := Rg.vw_at hC2.l.v (fK_get (show y < (runN L (o : Int) ⟨p, q, r, s⟩).1.length by rw [HW.out.2.2.2.2]; exact hyn))
          rw [Nat.zero_add] at d0 d1 d2 d3
          have q5 : kl < wr.heap.size := World.block_lt_of_cell? _ _ d0
          clear hx1
          skip
          obtain ⟨T, hT⟩ : ∃ T, T = (fK (runN L (o : Int) ⟨p, q, r, s⟩).1 y) := ⟨_, rfl⟩
          obtain ⟨M, hM⟩ : ∃ M, M = needV v U := ⟨_, rfl⟩
          have hwin : winB ⟨M.x0, M.y0, M.x1, M.y1⟩ ⟨T.x0, T.y0, T.x1, T.y1⟩ = true := by rw [hM, hT, HU.out]; exact (HW.out.2.2.1 i v (y : Int) HX.out.2.2.2.2.2 HXm.out).2 y rfl hyn
          have hMo : Ok ⟨M.x0, M.y0, M.x1, M.y1⟩ := by rw [hM]; exact ok_needA HX.out.2.2.2.1.pr HUo.out
          rw [← hT] at d0 d1 d2 d3
          rw [← hM] at y0 y1 y2 y3
          have HWin := hid (And.intro hwin hMo)
          have hB9 := al (W := wr) (.cells #[.int .i64 T.x0, .int .i64 T.y0, .int .i64 T.x1, .int .i64 T.y1] 26)
          have h94 := Rg.Rc.Has4.new (W := wr) (k := wr.heap.size) rfl (.int .i64 T.x0) (.int .i64 T.y0) (.int .i64 T.x1) (.int .i64 T.y1) 26
          have hS9 : S9 wr xb (xoff + k * 4) wr.heap.size M T (wr.alloc (.cells #[.int .i64 T.x0, .int .i64 T.y0, .int .i64 T.x1, .int .i64 T.y1] 26)) := ⟨⟨cell_below hB9 y0, cell_below hB9 y1, cell_below hB9 y2, cell_below hB9 y3, h94.c0, h94.c1, h94.c2, h94.c3⟩, hB9⟩
          have HB9 := hid hB9.drew
          clear hT hM hwin hMo hB9 h94 hC2 hO2
          go_wp2
          go_region_held3 (fun w' => (w'.cell? ⟨xb, xoff + k * 4, none⟩ = some (.int .i64 M.x0) ∧ w'.cell? ⟨xb, xoff + k * 4 + 1, none⟩ = some (.int .i64 M.y0) ∧ w'.cell? ⟨xb, xoff + k * 4 + 2, none⟩ = some (.int .i64 M.x1) ∧ w'.cell? ⟨xb, xoff + k * 4 + 3, none⟩ = some (.int .i64 M.y1) ∧ w'.cell? ⟨wr.heap.size, 0, none⟩ = some (.int .i64 T.x0) ∧ w'.cell? ⟨wr.heap.size, 1, none⟩ = some (.int .i64 T.y0) ∧ w'.cell? ⟨wr.heap.size, 2, none⟩ = some (.int .i64 T.x1) ∧ w'.cell? ⟨wr.heap.size, 3, none⟩ = some (.int .i64 T.y1)) ∧ Below wr.heap.size wr w') (repeat (first | with_reducible assumption | with_reducible refine s9_drew ?_ | with_reducible refine s9_below ?_ ‹_›)) ((first
            | (go_at_call 18; with_reducible refine Calls.mono (refWithin_any M.x0 M.y0 M.x1 M.y1 T.x0 T.y0 T.x1 T.y1 _ HWin.out.2) ?_; rintro e wz ⟨rfl, hb9⟩; rw [HWin.out.1]; replace HB9 := hid (via HB9.out hb9))))
          go_wp2
          go_roundg (v.ni - (k + 1))
          case measure => omega
          case rel => exact ⟨k + 1, hltk, rfl, by simp, HC2.out.to HB9.out, HO2.out.below HB9.out⟩
    · rw [hbt] at b0
      have HUn := hid hUn
      rw [hUn] at c0 c1 c2 c3
      replace c0 : wr.cell? ⟨kl, i * 4, none⟩ = some (.int .i64 0) := c0
      replace c1 : wr.cell? ⟨kl, i * 4 + 1, none⟩ = some (.int .i64 0) := c1
      replace c2 : wr.cell? ⟨kl, i * 4 + 2, none⟩ = some (.int .i64 0) := c2
      replace c3 : wr.cell? ⟨kl, i * 4 + 3, none⟩ = some (.int .i64 0) := c3
      clear hbt hUn
      have HB := hid (Below.refl wr.heap.size wr).drew
      obtain ⟨hS0, -⟩ := HSk.out
      have hSkk := HSk.out
      clear hS0
      go_wp2
      go_region_held3 (fun w' => (w'.cell? ⟨w.heap.size, 0, none⟩ = some (.slice (some ⟨b, off, none⟩) tn c) ∧ w'.cell? ⟨b, off + i * 3, none⟩ = some (.int .i64 v.op) ∧ w'.cell? ⟨b, off + i * 3 + 1, none⟩ = some (.slice v.ai v.ni v.ci) ∧ w'.cell? ⟨b, off + i * 3 + 2, none⟩ = some (.slice v.ap v.np v.cp) ∧ w'.cell? ⟨kl, i * 4, none⟩ = some (.int .i64 U.x0) ∧ w'.cell? ⟨kl, i * 4 + 1, none⟩ = some (.int .i64 U.y0) ∧ w'.cell? ⟨kl, i * 4 + 2, none⟩ = some (.int .i64 U.x1) ∧ w'.cell? ⟨kl, i * 4 + 3, none⟩ = some (.int .i64 U.y1)) ∧ Below w.heap.size w w') (repeat (first | with_reducible assumption | with_reducible refine sk_drew ?_ | with_reducible refine sk_below ?_ ‹_›)) ((first
        | (go_at_call 12; with_reducible refine Calls.mono (of_any v.op HX.out.2.2.2.1.k v.ai v.ni v.ci v.bi v.oi v.l v.ap v.np v.cp v.bp v.ob v.p U.x0 U.y0 U.x1 U.y1 _ (HX.out.1.below HB.out) HX.out.2.1 (HX.out.2.2.1.below HB.out) HX.out.2.2.2.1.pr HUo.out) ?_; rintro e w2 ⟨hrr, hb2⟩; obtain ⟨xo, xn, xc, xb, xoff, rfl, hO⟩ := Rg.retO hrr; have H2 := hid (And.intro hO (via HB.out hb2)))))
      have hxn : xn = v.ni := by have := Rg.vw_len H2.out.1.v; rw [List.length_replicate] at this; exact this.symm
      subst hxn
      have e5 : List.replicate v.ni (needE v.op (nth v.p) ⟨U.x0, U.y0, U.x1, U.y1⟩) = List.replicate v.ni (needV v U) := by have h1 := HE.out; rw [HX.out.2.2.2.2.1] at h1; exact h1
      have hO5 := H2.out.1
      rw [e5] at hO5
      have hCC := HC.out.to H2.out.2
      have HCC := hid (And.intro hCC (hO5.mono (show w.heap.size ≤ wr.drew.heap.size from HC.out.g.low.size)))
      clear e5 hO5 hCC hSkk hrr hb2 hO b0 c0 c1 c2 c3 g0 g1 HC H2
      go_wp2
      go_loopg [10, 11] v.ni (fun g v10 v11 wr => ∃ k : Nat, k ≤ v.ni ∧ g = v.ni - k ∧ v10 = .int .i64 k ∧ Cv w wr (some ⟨b, off, none⟩) tn c (o : Int) p q r s kl wl.heap.size (runN L (o : Int) ⟨p, q, r, s⟩).1 (runN L (o : Int) ⟨p, q, r, s⟩).2 (some ⟨tb, toff, none⟩) tc tb toff N ∧ Rg.Ow w.heap.size wr xo v.ni xc xb xoff (List.replicate v.ni (needV v U)))
      case atStart => exact ⟨0, Nat.zero_le _, rfl, rfl, HCC.out.1, HCC.out.2⟩
      case round =>
        obtain ⟨k, hk, rfl, rfl, hC2, hO2⟩ := hrel
        have HC2 := hid hC2
        have HO2 := hid hO2
        clear HCC
        by_cases hltk : k < v.ni
        case neg =>
          obtain rfl : v.ni = k := by omega
          clear hC2 hO2
          go_wp2
          go_roundg (tn - (i + 1))
          case measure => omega
          case rel => exact ⟨i + 1, hlt, rfl, by simp, HC2.out⟩
        have hkz : (k : Int) < (v.ni : Int) := by omega
        obtain ⟨x, hx⟩ : ∃ x, v.l[k]? = some x := ⟨_, List.getElem?_eq_getElem (by rw [HX.out.2.2.2.2.1]; exact hltk)⟩
        have HXm := hid (List.mem_of_getElem? hx)
        obtain ⟨-, ⟨m0, m1, m2⟩, hvi, hvp⟩ := vn_at (HV.out.below hC2.g.low) HX.out.2.2.2.2.2
        obtain ⟨hai, x0⟩ := vi_at hvi hx
        rw [hai] at m1
        clear hai hvi hvp
        obtain ⟨rfl, y0, y1, y2, y3⟩ := Rg.vw_at hO2.v (show (List.replicate v.ni (needV v U))[k]? = some (needV v U) by rw [List.getElem?_replicate, if_pos hltk])
        obtain ⟨g0, g1⟩ := hC2.g.g.1
        obtain ⟨e0, e1, e2, e3, ef⟩ := id hC2.s
        have q0 : w.heap.size < wr.heap.size := World.block_lt_of_cell? _ _ g0
        have q1 : b < wr.heap.size := World.block_lt_of_cell? _ _ m1
        have q2 : v.bi < wr.heap.size := World.block_lt_of_cell? _ _ x0
        have q3 : xb < wr.heap.size := World.block_lt_of_cell? _ _ y0
        have q4 : wl.heap.size < wr.heap.size := World.block_lt_of_cell? _ _ e0
        rcases HIn.out x HXm.out with hx1 | hx1
        · subst hx1
          have d0 := e0
          have d1 := e1
          have d2 := e2
          have d3 := e3
          clear e0 e1 e2 e3 ef
          obtain ⟨T, hT⟩ : ∃ T, T = (runN L (o : Int) ⟨p, q, r, s⟩).2 := ⟨_, rfl⟩
          obtain ⟨M, hM⟩ : ∃ M, M = needV v U := ⟨_, rfl⟩
          have hwin : winB ⟨M.x0, M.y0, M.x1, M.y1⟩ ⟨T.x0, T.y0, T.x1, T.y1⟩ = true := by rw [hM, hT, HU.out]; exact (HW.out.2.2.1 i v (-1) HX.out.2.2.2.2.2 HXm.out).1 rfl
          have hMo : Ok ⟨M.x0, M.y0, M.x1, M.y1⟩ := by rw [hM]; exact ok_needA HX.out.2.2.2.1.pr HUo.out
          rw [← hT] at d0 d1 d2 d3
          rw [← hM] at y0 y1 y2 y3
          have HWin := hid (And.intro hwin hMo)
          have hB9 := al (W := wr) (.cells #[.int .i64 T.x0, .int .i64 T.y0, .int .i64 T.x1, .int .i64 T.y1] 26)
          have h94 := Rg.Rc.Has4.new (W := wr) (k := wr.heap.size) rfl (.int .i64 T.x0) (.int .i64 T.y0) (.int .i64 T.x1) (.int .i64 T.y1) 26
          have hS9 : S9 wr xb (xoff + k * 4) wr.heap.size M T (wr.alloc (.cells #[.int .i64 T.x0, .int .i64 T.y0, .int .i64 T.x1, .int .i64 T.y1] 26)) := ⟨⟨cell_below hB9 y0, cell_below hB9 y1, cell_below hB9 y2, cell_below hB9 y3, h94.c0, h94.c1, h94.c2, h94.c3⟩, hB9⟩
          have HB9 := hid hB9.drew
          clear hT hM hwin hMo hB9 h94 hC2 hO2
          go_wp2
          go_region_held3 (fun w' => (w'.cell? ⟨xb, xoff + k * 4, none⟩ = some (.int .i64 M.x0) ∧ w'.cell? ⟨xb, xoff + k * 4 + 1, none⟩ = some (.int .i64 M.y0) ∧ w'.cell? ⟨xb, xoff + k * 4 + 2, none⟩ = some (.int .i64 M.x1) ∧ w'.cell? ⟨xb, xoff + k * 4 + 3, none⟩ = some (.int .i64 M.y1) ∧ w'.cell? ⟨wr.heap.size, 0, none⟩ = some (.int .i64 T.x0) ∧ w'.cell? ⟨wr.heap.size, 1, none⟩ = some (.int .i64 T.y0) ∧ w'.cell? ⟨wr.heap.size, 2, none⟩ = some (.int .i64 T.x1) ∧ w'.cell? ⟨wr.heap.size, 3, none⟩ = some (.int .i64 T.y1)) ∧ Below wr.heap.size wr w') (repeat (first | with_reducible assumption | with_reducible refine s9_drew ?_ | with_reducible refine s9_below ?_ ‹_›)) ((first
            | (go_at_call 18; with_reducible refine Calls.mono (refWithin_any M.x0 M.y0 M.x1 M.y1 T.x0 T.y0 T.x1 T.y1 _ HWin.out.2) ?_; rintro e wz ⟨rfl, hb9⟩; rw [HWin.out.1]; replace HB9 := hid (via HB9.out hb9))))
          go_wp2
          go_roundg (v.ni - (k + 1))
          case measure => omega
          case rel => exact ⟨k + 1, hltk, rfl, by simp, HC2.out.to HB9.out, HO2.out.below HB9.out⟩
        · obtain ⟨y, rfl⟩ : ∃ y : Nat, x = (y : Int) := ⟨x.toNat, by omega⟩
          have hyn : y < tn := by omega
          have hyz : (y : Int) < (tn : Int) := by omega
          have hy0 : (0 : Int) ≤ (y : Int) := by omega
          obtain ⟨-, d0, d1, d2, d3⟩ := Rg.vw_at hC2.l.v (fK_get (show y < (runN L (o : Int) ⟨p, q, r, s⟩).1.length by rw [HW.out.2.2.2.2]; exact hyn))
          rw [Nat.zero_add] at d0 d1 d2 d3
          have q5 : kl < wr.heap.size := World.block_lt_of_cell? _ _ d0
          clear hx1
          skip
          obtain ⟨T, hT⟩ : ∃ T, T = (fK (runN L (o : Int) ⟨p, q, r, s⟩).1 y) := ⟨_, rfl⟩
          obtain ⟨M, hM⟩ : ∃ M, M = needV v U := ⟨_, rfl⟩
          have hwin : winB ⟨M.x0, M.y0, M.x1, M.y1⟩ ⟨T.x0, T.y0, T.x1, T.y1⟩ = true := by rw [hM, hT, HU.out]; exact (HW.out.2.2.1 i v (y : Int) HX.out.2.2.2.2.2 HXm.out).2 y rfl hyn
          have hMo : Ok ⟨M.x0, M.y0, M.x1, M.y1⟩ := by rw [hM]; exact ok_needA HX.out.2.2.2.1.pr HUo.out
          rw [← hT] at d0 d1 d2 d3
          rw [← hM] at y0 y1 y2 y3
          have HWin := hid (And.intro hwin hMo)
          have hB9 := al (W := wr) (.cells #[.int .i64 T.x0, .int .i64 T.y0, .int .i64 T.x1, .int .i64 T.y1] 26)
          have h94 := Rg.Rc.Has4.new (W := wr) (k := wr.heap.size) rfl (.int .i64 T.x0) (.int .i64 T.y0) (.int .i64 T.x1) (.int .i64 T.y1) 26
          have hS9 : S9 wr xb (xoff + k * 4) wr.heap.size M T (wr.alloc (.cells #[.int .i64 T.x0, .int .i64 T.y0, .int .i64 T.x1, .int .i64 T.y1] 26)) := ⟨⟨cell_below hB9 y0, cell_below hB9 y1, cell_below hB9 y2, cell_below hB9 y3, h94.c0, h94.c1, h94.c2, h94.c3⟩, hB9⟩
          have HB9 := hid hB9.drew
          clear hT hM hwin hMo hB9 h94 hC2 hO2
          go_wp2
          go_region_held3 (fun w' => (w'.cell? ⟨xb, xoff + k * 4, none⟩ = some (.int .i64 M.x0) ∧ w'.cell? ⟨xb, xoff + k * 4 + 1, none⟩ = some (.int .i64 M.y0) ∧ w'.cell? ⟨xb, xoff + k * 4 + 2, none⟩ = some (.int .i64 M.x1) ∧ w'.cell? ⟨xb, xoff + k * 4 + 3, none⟩ = some (.int .i64 M.y1) ∧ w'.cell? ⟨wr.heap.size, 0, none⟩ = some (.int .i64 T.x0) ∧ w'.cell? ⟨wr.heap.size, 1, none⟩ = some (.int .i64 T.y0) ∧ w'.cell? ⟨wr.heap.size, 2, none⟩ = some (.int .i64 T.x1) ∧ w'.cell? ⟨wr.heap.size, 3, none⟩ = some (.int .i64 T.y1)) ∧ Below wr.heap.size wr w') (repeat (first | with_reducible assumption | with_reducible refine s9_drew ?_ | with_reducible refine s9_below ?_ ‹_›)) ((first
            | (go_at_call 18; with_reducible refine Calls.mono (refWithin_any M.x0 M.y0 M.x1 M.y1 T.x0 T.y0 T.x1 T.y1 _ HWin.out.2) ?_; rintro e wz ⟨rfl, hb9⟩; rw [HWin.out.1]; replace HB9 := hid (via HB9.out hb9))))
          go_wp2
          go_roundg (v.ni - (k + 1))
          case measure => omega
          case rel => exact ⟨k + 1, hltk, rfl, by simp, HC2.out.to HB9.out, HO2.out.below HB9.out⟩

theorem own : ownKnob Tryd.prog.godebug = none := by kernel_rfl
theorem door_met (os : Os) (args : Array Value) : laidMetH Tryd.prog laid3 ((World.doorLaid Tryd.prog 24 os).forCall (fun _ _ => 0) ⟨#[], args, []⟩).memory :=
  laidMetH_of_parts3 (fuel := 8) (laidMet_of_run' 8 (by kernel_rfl) (by kernel_rfl)) (by kernel_rfl) (by kernel_rfl)

set_option maxHeartbeats 400000 in
set_option maxRecDepth 100000 in
theorem lifted (os : Os) (started : os.Started) (H : Type) (enc : TypeId × Value → H) :
    ReturnsInHanded {} Tryd.checked os 5 .any (fun w args => (Rows.needCoversSpec.pre enc Tryd.prog Tryd.f5 [] false w args ∧ laidMetH Tryd.prog laid3 w) ∧ sizedMet enc Tryd.prog Tryd.f5 (OpenSpec.ofChange Rows.needCoversSpec) false w args)
      (Rows.needCoversSpec.post enc Tryd.prog Tryd.f5 false true false false) := by
  refine returnsInHanded_of_change_and (C := Tryd.checked) (X := fun w _ => laidMetH Tryd.prog laid3 w) (fun _ _ _ hh h => h.of_heap hh) own started (by kernel_rfl) Tryd.func5
    (ChangeSpec.witness_shaped (enc := enc) (C := Tryd.checked) (os := os) (X := fun w _ => laidMetH Tryd.prog laid3 w) false (World.doorLaid Tryd.prog 24 os) #[.agg #[.slice none 0 0, .int .i64 0], .agg #[.int .i64 0, .int .i64 0, .int .i64 0, .int .i64 0]] 8 rfl (World.shaped_of_RefB (by kernel_rfl) (by kernel_rfl)) (by kernel_rfl) (by kernel_rfl) (by kernel_rfl) (door_met os _)) ?_
  intro W base args ds gs before hval0 hW _ _ hL _
  have hval : ∀ (j : Nat) t v, Tryd.f5.params[j]? = some t → args[j]? = some v → Value.okWide Tryd.prog W .any base t v := hval0
  have hW' := hW
  obtain ⟨p, q, hA0, hV, rfl, hfz, hnd⟩ := hW
  have hA : DataW.TrodAll enc Tryd.prog W 0 (fun _ => true) true Tryd.f5.params.toList args.toList ds p := hA0
  rw [Tryd.params5] at hA hval
  obtain ⟨v0, vs0, d0, ds0, p0, q0, hargs, rfl, rfl, h0, r0⟩ := trodAll_cons hA
  obtain ⟨v1, vs1, d1, ds1, p1, q1, rfl, rfl, rfl, h1, r1⟩ := trodAll_cons r0
  obtain ⟨rfl, rfl, rfl⟩ := trodAll_nil r1
  obtain rfl : args = #[v0, v1] := by cases args; simp_all
  obtain ⟨rfl, rfl⟩ := trodVars_none hV
  obtain ⟨ao0, n0, c0, b0, off0, L0, out0, rfl, hv0⟩ := open_graph (hval 0 36 v0 rfl rfl) h0
  obtain ⟨x1, y1, z1, t1, rfl⟩ := open_rect (hval 1 26 v1 rfl rfl) h1
  clear hA0 hval0
  have hT := tabs_of hL
  simp only [List.append_nil] at hW'
  have hlt0 : ∀ x ∈ p0, x.block < W.heap.size := fun x hx => hW'.lt x (by simp [hx])
  have hlt1 : ∀ x ∈ p1, x.block < W.heap.size := fun x hx => hW'.lt x (by simp [hx])
  refine (walk ao0 n0 c0 b0 off0 L0 out0 x1 y1 z1 t1 W hv0 hT).mono fun e W' ⟨he, hg⟩ => ?_
  subst he
  have tr0 := Below.trod laidOut (by kernel_rfl) (of_decide_eq_true (by kernel_rfl)) h0 hg (fun x hx => hlt0 x hx)
  have tr1 := Below.trod laidOut (by kernel_rfl) (of_decide_eq_true (by kernel_rfl)) h1 hg (fun x hx => hlt1 x hx)
  exact ⟨_, rfl, ⟨_, _, _, _, _, _, hW', (trodAll_cons_mk (shut_bool Tryd.underlying4 _) trodAll_mk0), (trodAll_cons_mk tr0 (trodAll_cons_mk tr1 trodAll_mk0)), rfl, hg.frame _, fun h => by cases h⟩⟩

theorem over : Rows.NeedCoversSaid :=
  OpenClaim.holds_of_wide 5 Tryd.f5 rfl rfl rfl rfl rfl rfl rfl ⟨rfl, rfl, rfl, rfl, rfl⟩ rfl rfl rfl rfl rfl (by kernel_rfl) Tryd.func5 (by kernel_rfl)
    (of_decide_eq_true (by kernel_rfl)) (by unfold Func.isWrapper; first | (rw [if_pos (by decide +kernel)]; kernel_rfl) | (rw [if_neg (by decide +kernel)]; exact ⟨rfl, rfl⟩))
    (fun os started H enc _ => lifted os started H enc)

theorem proved : Rows.NeedCoversCardSaid :=
  Claim7.holds_tied_plain_at .later [] [.data, .data, .data] true (true, "71b3e36144abff0af242cc6e68620bceea4b925d8c9046e5d34f8d7acc8bfaac") true
    over (fun _ h => by cases h) (by kernel_rfl) (fun _ h => by cases h) needCovers_row_tie rfl ⟨rfl, rfl⟩ (by kernel_rfl) rfl
    (fun f fn hf hfn => by
      obtain rfl : f = 5 := Option.some.inj ((show Tryd.prog.funcNamed "gouache/gouachelaw14.NeedCovers" = some 5 by kernel_rfl).symm.trans hf) |>.symm
      obtain rfl : fn = Tryd.f5 := (Option.some.inj (Tryd.func5.symm.trans hfn)).symm
      exact ⟨by kernel_rfl, fun j t ht => by
        rw [Tryd.params5] at ht
        have hm : t ∈ [36, 26] := by simpa using Array.mem_of_getElem? ht
        have hall : ([36, 26].all fun u => !Tryd.prog.wantsStandIn u) = true := by kernel_rfl
        exact (show Tryd.prog.wantsStandIn t = false by simpa using List.all_eq_true.1 hall t hm)⟩)
    (by kernel_rfl)
#print axioms proved
end Go.Proofs.YtamojciiacmjaaaDoor.needCovers
