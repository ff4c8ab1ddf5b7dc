import Derived.Test.YtamojciiacmjaaaDoorMemA
import Derived.Test.YtamojciiacmjaaaDoorFamA
/- Has a node another one as an input, by the document: the contract. -/
namespace Go.Proofs.YtamojciiacmjaaaDoor
open Num Go.RowKit
set_option linter.unusedVariables false
set_option linter.unusedSimpArgs false

set_option maxRecDepth 100000 in
set_option maxHeartbeats 1000000 in
theorem has25_any (ao : Option Addr) (n c b off : Nat) (L : List Nv) (out : Int) (i : Nat) (x : Int) (w : World) (h : Vn w ao n c b off L) (hf : Few n L) (hi : i < n) :
    Calls Tryd.prog 39 #[.agg #[.slice ao n c, .int .i64 out], .int .i64 i, .int .i64 x] w fun e w' => e = .returned (.bool ((inL (insL L) i).contains x)) ∧ Below w.heap.size w w' := by
  have hl := vn_len h
  obtain ⟨v, hv⟩ : ∃ v, L[i]? = some v := ⟨_, List.getElem?_eq_getElem (by rw [hl]; exact hi)⟩
  rw [insL_at hv]
  obtain ⟨rfl, ⟨c0, c1, c2⟩, hvi, hvp⟩ := vn_at h hv
  have hni := hf.i v (List.mem_of_getElem? hv)
  have hn := hf.n
  have hlv := vi_len hvi
  have hiz : (i : Int) < (n : Int) := by omega
  have hb := World.block_lt_of_cell? _ _ c1
  have HV := hid (And.intro hvi hlv)
  clear h hv hf hvi hvp c0 c2 hl hlv
  generalize hbv : v.bi = bi at HV
  generalize hov : v.oi = oi at HV
  generalize hav : v.ai = ai at *
  generalize hnv : v.ni = ni at *
  generalize hcv : v.ci = ci at *
  generalize hlv : v.l = l at *
  clear hbv hov hav hnv hcv hlv v
  go_enter Tryd.func39, Tryd.ntmps39
  go_wp2
  go_loopg [7] ni (fun g k wr => ∃ j : Nat, j ≤ ni ∧ g = ni - j ∧ k = .int .i64 j ∧ wr = w.alloc (.cells #[.slice (some ⟨b, off, none⟩) n c, .int .i64 out] 36) ∧ (l.drop j).contains x = l.contains x)
  case atStart => exact ⟨0, Nat.zero_le _, rfl, rfl, rfl, rfl⟩
  case round =>
    obtain ⟨j, hj, rfl, rfl, rfl, hs⟩ := hrel
    by_cases hlt : j < ni
    · have hlz : (j : Int) < (ni : Int) := by omega
      obtain ⟨m, hm⟩ : ∃ m, l[j]? = some m := ⟨_, List.getElem?_eq_getElem (by rw [HV.out.2]; exact hlt)⟩
      obtain ⟨rfl, d0⟩ := vi_at (HV.out.1.below ((Below.refl _ _).alloc (Nat.le_refl _) (.cells #[.slice (some ⟨b, off, none⟩) n c, .int .i64 out] 36))) hm
      have hc : (l.drop j).contains x = (decide (m = x) || (l.drop (j + 1)).contains x) := by
        obtain ⟨h1, rfl⟩ := List.getElem?_eq_some_iff.1 hm
        rw [List.drop_eq_getElem_cons h1, List.contains_cons]
        congr 1
        rw [Bool.eq_iff_iff]; simp; exact eq_comm
      rw [hc] at hs
      have HS := hid hs
      clear hs hc hm
      by_cases e : m = x
      · go_wp2
        go_ret
        exact ⟨ret_bool (by rw [← HS.out]; simp [e]), (Below.refl _ _).alloc (Nat.le_refl _) _⟩
      · go_wp2
        go_roundg (ni - (j + 1))
        case measure => omega
        case rel => exact ⟨j + 1, hlt, rfl, by simp, rfl, by rw [← HS.out]; simp [e]⟩
    · obtain rfl : j = ni := by omega
      have HS := hid hs
      clear hs
      go_wp2
      go_ret
      exact ⟨ret_bool (by rw [← HS.out, List.drop_eq_nil_of_le (by rw [HV.out.2]; exact Nat.le_refl _)]; rfl), (Below.refl _ _).alloc (Nat.le_refl _) _⟩
end Go.Proofs.YtamojciiacmjaaaDoor
/- The order, by the document: the contract. -/
namespace Go.Proofs.YtamojciiacmjaaaDoor
open Num Go.RowKit
set_option linter.unusedVariables false
set_option linter.unusedSimpArgs false
attribute [local go_sem ↓] run_app
attribute [local go_sem] lenV_slice

/-- what is written above the marks' block leaves them and the filter -/
theorem mk_hi {w : World} {k g : Nat} {ao : Option Addr} {n c : Nat} {out : Int} {D : List Bool} {wr w' : World} (h : Mk w k g ao n c out D wr) (hkg : k < g + 1) (hg1 : g < wr.heap.size) (hb : Below (g + 1) wr w') : Mk w k g ao n c out D w' :=
  ⟨h.low.trans (hb.mono (by have := h.hg; omega)), ⟨(World.cell?_of_block (a := ⟨k, 0, none⟩) (hb.block k hkg)).trans h.bx.c0, (World.cell?_of_block (a := ⟨k, 1, none⟩) (hb.block k hkg)).trans h.bx.c1⟩, h.hk, h.d.block hb.size (fun _ => hb.block g (by omega)), h.ne, h.hg⟩

/-- the least one from q on that may come, as far as they were looked at from above -/
def Best (G : List (List Int)) (L : List Nat) (q : Nat) (x : Int) : Prop := (x = -1 ∧ ∀ j, q ≤ j → j < G.length → readyB G L j = false) ∨ ∃ a : Nat, x = (a : Int) ∧ q ≤ a ∧ a < G.length ∧ readyB G L a = true ∧ ∀ j, q ≤ j → j < a → readyB G L j = false
theorem best_start (G : List (List Int)) (L : List Nat) : Best G L G.length (-1) := Or.inl ⟨rfl, fun j h1 h2 => by omega⟩
theorem best_yes {G : List (List Int)} {L : List Nat} {q : Nat} (hq : q < G.length) (h : readyB G L q = true) : Best G L q (q : Int) := Or.inr ⟨q, rfl, Nat.le_refl _, hq, h, fun j h1 h2 => by omega⟩
theorem best_no {G : List (List Int)} {L : List Nat} {q : Nat} {x : Int} (hb : Best G L (q + 1) x) (h : readyB G L q = false) : Best G L q x := by
  rcases hb with ⟨h1, h2⟩ | ⟨a, h1, h2, h3, h4, h5⟩
  · refine Or.inl ⟨h1, fun j hj hl => ?_⟩
    by_cases e : j = q
    · subst e; exact h
    · exact h2 j (by omega) hl
  · refine Or.inr ⟨a, h1, by omega, h3, h4, fun j hj hl => ?_⟩
    by_cases e : j = q
    · subst e; exact h
    · exact h5 j (by omega) hl
theorem best_end {G : List (List Int)} {L : List Nat} {x : Int} (hb : Best G L 0 x) : (x = -1 ∧ nextG G L = none) ∨ ∃ a : Nat, x = (a : Int) ∧ a < G.length ∧ nextG G L = some a := by
  rcases hb with ⟨h1, h2⟩ | ⟨a, h1, h2, h3, h4, h5⟩
  · exact Or.inl ⟨h1, next_none.2 fun i hi => h2 i (Nat.zero_le _) hi⟩
  · exact Or.inr ⟨a, h1, h3, next_some.2 ⟨h3, h4, fun j hj => h5 j (Nat.zero_le _) hj⟩⟩
/-- may it come, by the first k of its inputs? -/
def okK (G : List (List Int)) (D : List Bool) (i k : Nat) : Bool := !bt D i && (List.range k).all fun a => bt D a || !hasB G i a
theorem okK_step (G : List (List Int)) (D : List Bool) (i k : Nat) : okK G D i (k + 1) = (okK G D i k && (bt D k || !hasB G i k)) := by
  unfold okK
  rw [List.range_succ, List.all_append, Bool.and_assoc]
  simp
theorem okK_start (G : List (List Int)) (D : List Bool) (i : Nat) : okK G D i 0 = !bt D i := by unfold okK; simp
/-- the marks are those of the list -/
def InM (n : Nat) (D : List Bool) (L : List Nat) : Prop := ∀ k, k < n → (bt D k = true ↔ k ∈ L)
theorem okK_end {G : List (List Int)} {D : List Bool} {L : List Nat} {i : Nat} (h : InM G.length D L) (hi : i < G.length) : okK G D i G.length = readyB G L i := by
  rw [Bool.eq_iff_iff, ready_iff]
  unfold okK
  rw [Bool.and_eq_true, Bool.not_eq_true', List.all_eq_true]
  refine and_congr ?_ ?_
  · rw [← h i hi]; simp
  · constructor
    · intro ha k hk hh
      have := ha k (List.mem_range.2 hk)
      rw [hh] at this
      simp at this
      exact (h k hk).1 this
    · intro ha k hk
      have hk' := List.mem_range.1 hk
      cases hh : hasB G i k with
      | false => simp
      | true => simp [(h k hk').2 (ha k hk' hh)]
theorem inm_start (n : Nat) : InM n (List.replicate n false) [] := fun k _ => by rw [bt_none]; simp
theorem inm_step {n : Nat} {D : List Bool} {L : List Nat} (h : InM n D L) (hl : D.length = n) {a : Nat} (ha : a < n) : InM n (D.set a true) (L ++ [a]) := by
  intro k hk
  rw [List.mem_append, List.mem_singleton]
  by_cases e : a = k
  · subst e
    rw [bt_set_eq (by omega)]; simp
  · rw [bt_set_ne e, h k hk]
    exact ⟨Or.inl, fun hc => by rcases hc with hc | hc; exact hc; exact absurd hc.symm e⟩

set_option maxRecDepth 100000 in
set_option maxHeartbeats 4000000 in
theorem refAll_any (ao : Option Addr) (n c b off : Nat) (L : List Nv) (out : Int) (w : World) (h : Vn w ao n c b off L) (hf : Few n L) :
    Calls Tryd.prog 37 #[.agg #[.slice ao n c, .int .i64 out]] w fun e w' => RetI w.heap.size w' e (castL (ordG (insL L))) ∧ Below w.heap.size w w' := by
  have hl := vn_len h
  have hn := hf.n
  have hr := run_falses n (by omega)
  have H := hid (And.intro h (And.intro hf hl))
  have hm := mk_start w ao n c out hn
  have hG : Hid ((insL L).length = n) := by show (insL L).length = n; rw [insL_len, hl]
  have hsz : ((w.alloc (.cells #[.slice ao n c, .int .i64 out] 36)).alloc (.cells (bools (List.replicate n false)).toArray 4)).heap.size = w.heap.size + 1 + 1 := by simp
  clear h hl hf
  go_enter Tryd.func37, Tryd.ntmps37
  go_wp2
  generalize hg : w.heap.size + 1 = g at *
  generalize ((w.alloc (.cells #[.slice ao n c, .int .i64 out] 36)).alloc (.cells (bools (List.replicate n false)).toArray 4)) = W at *
  have HM := hid (And.intro hm (And.intro hsz hg))
  have hI := hid (inm_start n)
  clear hm hr hsz hg
  generalize List.replicate n false = D0 at *
  go_loopg [3, 5, 6, 7, 8, 9] n (fun gk x3 x5 x6 x7 x8 x9 wr => ∃ (w1 : World) (r : Nat) (D : List Bool) (M : List Nat) (ao' : Option Addr) (c' b' o' : Nat), w1 = wr ∧ r ≤ n ∧ gk = n - r ∧ x5 = .int .i64 r ∧ x3 = .slice ao' r c' ∧ Mk w w.heap.size g ao n c out D w1 ∧ g < w1.heap.size ∧ Oi (g + 1) w1 ao' r c' b' o' (castL M) ∧ InM n D M ∧ St (insL L) M)
  case atStart => exact ⟨_, 0, D0, [], none, 0, 0, 0, rfl, Nat.zero_le _, rfl, rfl, rfl, HM.out.1, by have := HM.out.2.1; omega, oi_nil _ _ _, hI.out, st_nil _⟩
  case round =>
    obtain ⟨w1, r, D, M, ao', c', b', o', rfl, hr, rfl, rfl, rfl, hm1, hg1, hO, hI1, hS⟩ := hrel
    have H1 := hid (And.intro hm1 (And.intro hg1 (And.intro hO (And.intro hI1 hS))))
    obtain ⟨c0, c1⟩ := hm1.bx
    clear hm1 hg1 hO hI1 hS hI
    by_cases hlt : r < n
    · have hltz : (r : Int) < (n : Int) := by omega
      go_wp2
      go_loopg [6, 7, 8, 9] n (fun gk x6 x7 x8 x9 wr => ∃ (w2 : World) (q : Nat) (bst : Int), w2 = wr ∧ q ≤ n ∧ q = gk ∧ x7 = .int .i64 ((q : Int) - 1) ∧ x6 = .int .i64 bst ∧ Below w1.heap.size w1 w2 ∧ Best (insL L) M q bst)
      case atStart => exact ⟨_, n, -1, rfl, Nat.le_refl _, rfl, by simp, rfl, Below.refl _ _, by have := best_start (insL L) M; rw [hG.out] at this; exact this⟩
      case round =>
        obtain ⟨w2, q, bst, rfl, hq, rfl, rfl, rfl, hB2, hbst⟩ := hrel
        have H2 := hid (And.intro hB2 hbst)
        have hm2 := H1.out.1.below hB2
        obtain ⟨d0, d1⟩ := hm2.bx
        have HM2 := hid hm2
        clear hB2 hbst hm2 c0 c1
        by_cases hq0 : 0 < q
        · obtain ⟨i, rfl⟩ : ∃ i, q = i + 1 := ⟨q - 1, by omega⟩
          have hqz : ((i + 1 : Nat) : Int) - 1 = (i : Int) := by omega
          have hi : i < n := by omega
          have hiz : (i : Int) < (n : Int) := by omega
          have e0 := ot_bt0 HM2.out.d hi
          rw [hqz]
          go_wp2
          go_loopg [8, 9] n (fun gk x8 x9 wr => ∃ k : Nat, k ≤ n ∧ gk = n - k ∧ x9 = .int .i64 k ∧ x8 = .bool (okK (insL L) D i k) ∧ Below w2.heap.size w2 wr)
          case atStart => exact ⟨0, Nat.zero_le _, rfl, rfl, by rw [okK_start], Below.refl _ _⟩
          case round =>
            obtain ⟨k, hk, rfl, rfl, rfl, hB3⟩ := hrel
            have hm3 := HM2.out.below hB3
            have HB3 := hid (And.intro hB3 hm3)
            obtain ⟨f0, f1⟩ := hm3.bx
            clear hB3 hm3 e0 d0 d1
            by_cases hklt : k < n
            · have hklz : (k : Int) < (n : Int) := by omega
              have HS := hid (okK_step (insL L) D i k)
              rcases hok : okK (insL L) D i k with _ | _
              · have HO := hid hok
                clear hok
                go_wp2
                go_roundg (n - (k + 1))
                case measure => omega
                case rel => exact ⟨k + 1, hklt, rfl, by simp, by rw [HS.out, HO.out]; rfl, HB3.out.1⟩
              · have HO := hid hok
                clear hok
                have e1 := ot_bt0 HB3.out.2.d hklt
                rcases hb : bt D k with _ | _
                · have HBt := hid hb
                  rcases hh : hasB (insL L) i k with _ | _
                  · have HC := hid (has_c hh)
                    have HH := hid hh
                    clear hb hh
                    rw [HBt.out] at e1
                    go_wp2_with (first
                      | (go_at_call 39; with_reducible refine Calls.mono (has25_any _ _ _ b off L _ i _ _ (H.out.1.below HB3.out.2.low) H.out.2.1 ‹_›) ?_; rintro e w4 ⟨rfl, hb⟩; have HB4 := hid hb; clear hb; rw [HC.out]))
                    go_roundg (n - (k + 1))
                    case measure => omega
                    case rel => exact ⟨k + 1, hklt, rfl, by simp, by rw [HS.out, HO.out, HBt.out, HH.out]; rfl, via (w := w2) HB3.out.1 HB4.out⟩
                  · have HC := hid (has_c hh)
                    have HH := hid hh
                    clear hb hh
                    rw [HBt.out] at e1
                    go_wp2_with (first
                      | (go_at_call 39; with_reducible refine Calls.mono (has25_any _ _ _ b off L _ i _ _ (H.out.1.below HB3.out.2.low) H.out.2.1 ‹_›) ?_; rintro e w4 ⟨rfl, hb⟩; have HB4 := hid hb; clear hb; rw [HC.out]))
                    go_roundg (n - (k + 1))
                    case measure => omega
                    case rel => exact ⟨k + 1, hklt, rfl, by simp, by rw [HS.out, HO.out, HBt.out, HH.out]; rfl, via (w := w2) HB3.out.1 HB4.out⟩
                · have HBt := hid hb
                  clear hb
                  rw [HBt.out] at e1
                  go_wp2
                  go_roundg (n - (k + 1))
                  case measure => omega
                  case rel => exact ⟨k + 1, hklt, rfl, by simp, by rw [HS.out, HO.out, HBt.out]; rfl, HB3.out.1⟩
            · obtain rfl : k = n := by omega
              have HE : Hid (okK (insL L) D i k = readyB (insL L) M i) := by
                show okK (insL L) D i k = readyB (insL L) M i
                have := okK_end (G := insL L) (D := D) (L := M) (i := i) (by rw [hG.out]; exact H1.out.2.2.2.1) (by rw [hG.out]; exact hi)
                rw [hG.out] at this
                exact this
              rcases hok : okK (insL L) D i k with _ | _
              · have HO := hid hok
                clear hok
                go_wp2
                go_roundg i
                case measure => omega
                case rel => exact ⟨_, i, bst, rfl, by omega, rfl, by simp, rfl, via (w := w1) H2.out.1 HB3.out.1, best_no H2.out.2 (by rw [← HE.out, HO.out])⟩
              · have HO := hid hok
                clear hok
                go_wp2
                go_roundg i
                case measure => omega
                case rel => exact ⟨_, i, (i : Int), rfl, by omega, rfl, by simp, rfl, via (w := w1) H2.out.1 HB3.out.1, best_yes (by rw [hG.out]; exact hi) (by rw [← HE.out, HO.out])⟩
        · obtain rfl : q = 0 := by omega
          rcases best_end H2.out.2 with ⟨e, hnx⟩ | ⟨a, e, ha, hnx⟩
          · subst e
            have HX := hid hnx
            clear hnx
            go_wp2
            go_ret
            exact ⟨⟨_, _, _, _, _, rfl, by rw [← st_end H1.out.2.2.2.2 HX.out]; exact (H1.out.2.2.1.below H2.out.1).mono (by have := H1.out.1.hg; omega)⟩, HM2.out.low⟩
          · subst e
            have HX := hid hnx
            rw [hG.out] at ha
            have haz : (a : Int) < (n : Int) := by omega
            have e0 := ot_bt0 HM2.out.d ha
            have f0 := ot_fz0 HM2.out.d ha
            have hO2 := oz_far (H1.out.2.2.1.below H2.out.1) (k := g) (fun hc => by have := (H1.out.2.2.1.new hc).1; omega) a (.bool true)
            have hg2 : g + 1 ≤ (w2.setCell ⟨g, a, none⟩ (.bool true)).heap.size := by
              have h1 := H1.out.2.1
              have h2 := H2.out.1.size
              have h3 := ((Below.refl 0 w2).setCell (p := ⟨g, a, none⟩) (Nat.zero_le _) (.bool true)).size
              omega
            obtain ⟨b5, o5, hA⟩ := app28 hO2 hg2 (by omega) (a : Int)
            have hz2 : (w2.setCell ⟨g, a, none⟩ (.bool true)).heap.size = w2.heap.size := by simp
            rw [hz2] at hA
            have hF := app28_fine hA
            have HA := hid (And.intro hA hg2)
            clear hA hnx hO2 hg2 hz2
            go_wp2
            go_roundg (n - (r + 1))
            case measure => omega
            case rel =>
              have hms := mk_set HM2.out ha true
              have hw := app_wide HA.out.1 HA.out.2 (Nat.le_refl _)
              exact ⟨_, r + 1, D.set a true, M ++ [a], _, _, b5, o5, rfl, hlt, rfl, by simp, rfl, mk_hi hms (by have := H1.out.1.ne; have := H1.out.1.hg; omega) HA.out.2 hw, by have := hw.size; have := HA.out.2; omega, by rw [castL_app]; exact oi_app HA.out.1.own, inm_step H1.out.2.2.2.1 H1.out.1.len ha, st_step H1.out.2.2.2.2 HX.out⟩
    · obtain rfl : r = n := by omega
      go_wp2
      go_ret
      have e := st_full H1.out.2.2.2.2 (by rw [hG.out]; have := vi_len H1.out.2.2.1.v; rw [castL_len] at this; omega)
      exact ⟨⟨_, _, _, _, _, rfl, by rw [← e]; exact H1.out.2.2.1.mono (by have := H1.out.1.hg; omega)⟩, H1.out.1.low⟩
end Go.Proofs.YtamojciiacmjaaaDoor
/- Which nodes are needed, by the document: the contract. -/
namespace Go.Proofs.YtamojciiacmjaaaDoor
open Num Go.RowKit
set_option linter.unusedVariables false
set_option linter.unusedSimpArgs false

namespace Num
/-- in a round, of the first i nodes -/
structure Ni (G : List (List Int)) (out : Int) (E : List Bool) (i : Nat) (D : List Bool) : Prop where
  r : Nr G out D
  mono : ∀ k, bt E k = true → bt D k = true
  o : ∀ k : Nat, out = (k : Int) → k < i → bt D k = true
  c : ∀ a, a < i → bt E a = true → ∀ k, k < G.length → hasB G a k = true → bt D k = true
/-- .. and of the first k inputs of the next one -/
structure Nk (G : List (List Int)) (out : Int) (E : List Bool) (i k : Nat) (D : List Bool) : Prop where
  n : Ni G out E i D
  o : out = (i : Int) → bt D i = true
  c : ∀ j, j < k → hasB G i j = true → bt E i = true → bt D j = true
theorem ni_start {G : List (List Int)} {out : Int} {E : List Bool} (h : Nr G out E) : Ni G out E 0 E := ⟨h, fun k hk => hk, fun k _ h => by omega, fun a h => by omega⟩
theorem bt_or {D : List Bool} {i k : Nat} {v : Bool} (hv : bt D i = true → v = true) (h : bt D k = true) : bt (D.set i v) k = true := by
  by_cases e : i = k
  · subst e
    by_cases hl : i < D.length
    · rw [bt_set_eq hl]; exact hv h
    · rw [List.set_eq_of_length_le (by omega)]; exact h
  · rw [bt_set_ne e]; exact h
theorem ni_set {G : List (List Int)} {out : Int} {E D : List Bool} {i k : Nat} {v : Bool} (h : Ni G out E i D) (hv : bt D k = true → v = true) (hr : v = true → Rch G out k) : Ni G out E i (D.set k v) :=
  ⟨nr_set h.r hr, fun a ha => bt_or hv (h.mono a ha), fun a ha hl => bt_or hv (h.o a ha hl), fun a ha hb j hj hh => bt_or hv (h.c a ha hb j hj hh)⟩
theorem nk_first {G : List (List Int)} {out : Int} {E D : List Bool} {i : Nat} {v : Bool} (h : Ni G out E i D) (hi : i < G.length) (hv : v = true ↔ (bt D i = true ∨ (i : Int) = out)) : Nk G out E i 0 (D.set i v) := by
  refine ⟨ni_set h (fun hb => hv.2 (Or.inl hb)) (fun ht => ?_), fun ho => ?_, fun j hj => by omega⟩
  · rcases hv.1 ht with h1 | h1
    · exact h.r.sound i hi h1
    · exact Rch.out i h1.symm hi
  · rw [bt_set_eq (by rw [h.r.len]; exact hi)]
    exact hv.2 (Or.inr ho.symm)
theorem nk_step {G : List (List Int)} {out : Int} {E D : List Bool} {i k : Nat} {v : Bool} (h : Nk G out E i k D) (hi : i < G.length) (hk : k < G.length) (hb : bt D i = true) (hv : v = true ↔ (bt D k = true ∨ hasB G i k = true)) : Nk G out E i (k + 1) (D.set k v) := by
  have hv1 : bt D k = true → v = true := fun hb => hv.2 (Or.inl hb)
  refine ⟨ni_set h.n hv1 (fun ht => ?_), fun ho => bt_or hv1 (h.o ho), fun j hj hh he => ?_⟩
  · rcases hv.1 ht with h1 | h1
    · exact h.n.r.sound k hk h1
    · exact Rch.step i k (h.n.r.sound i hi hb) hk h1
  · by_cases e : j = k
    · subst e
      rw [bt_set_eq (by rw [h.n.r.len]; exact hk)]
      exact hv.2 (Or.inr hh)
    · exact bt_or hv1 (h.c j (by omega) hh he)
theorem nk_end {G : List (List Int)} {out : Int} {E D : List Bool} {i k : Nat} (h : Nk G out E i k D) (hk : k = G.length ∨ bt D i = false) : Ni G out E (i + 1) D := by
  refine ⟨h.n.r, h.n.mono, fun a ho ha => ?_, fun a ha hb j hj hh => ?_⟩
  · by_cases e : a = i
    · subst e; exact h.o ho
    · exact h.n.o a ho (by omega)
  · by_cases e : a = i
    · subst e
      rcases hk with hk | hk
      · exact h.c j (by omega) hh hb
      · rw [h.n.mono a hb] at hk; cases hk
    · exact h.n.c a (by omega) hb j hj hh
theorem ni_end {G : List (List Int)} {out : Int} {E D : List Bool} {r : Nat} (h : Ni G out E G.length D) (hE : Nr G out E) (hf : Far G out r E) : Far G out (r + 1) D :=
  far_round hf hE h.r h.mono h.o h.c
end Num

set_option maxRecDepth 100000 in
set_option maxHeartbeats 4000000 in
theorem refNeed_any (ao : Option Addr) (n c b off : Nat) (L : List Nv) (out : Int) (w : World) (h : Vn w ao n c b off L) (hf : Few n L) :
    Calls Tryd.prog 17 #[.agg #[.slice ao n c, .int .i64 out]] w fun e w' => (∃ N, RetT w.heap.size w' e N ∧ Nd (insL L) out N) ∧ Below w.heap.size w w' := by
  have hl := vn_len h
  have hn := hf.n
  have hr := run_falses n (by omega)
  have H := hid (And.intro h (And.intro hf hl))
  have hm := mk_start w ao n c out hn
  have hG : Hid ((insL L).length = n) := by show (insL L).length = n; rw [insL_len, hl]
  clear h hl hf
  go_enter Tryd.func17, Tryd.ntmps17
  go_wp2
  generalize w.heap.size + 1 = g at *
  generalize ((w.alloc (.cells #[.slice ao n c, .int .i64 out] 36)).alloc (.cells (bools (List.replicate n false)).toArray 4)) = W at *
  have HM := hid hm
  have hI := hid (And.intro (nr_start (insL L) out) (far_start (insL L) out))
  rw [hG.out] at hI
  clear hm hr
  generalize List.replicate n false = D0 at *
  go_loopg [4, 5, 6] (n + 1) (fun gk x4 x5 x6 wr => ∃ (w1 : World) (r : Nat) (D : List Bool), w1 = wr ∧ r ≤ n + 1 ∧ gk = n + 1 - r ∧ x4 = .int .i64 r ∧ Mk w w.heap.size g ao n c out D w1 ∧ Nr (insL L) out D ∧ Far (insL L) out r D)
  case atStart => exact ⟨_, 0, D0, rfl, Nat.zero_le _, rfl, rfl, HM.out, hI.out.1, hI.out.2⟩
  case round =>
    obtain ⟨w1, r, E, rfl, hr, rfl, rfl, hm1, hN1, hF1⟩ := hrel
    have H1 := hid (And.intro hm1 (And.intro hN1 hF1))
    obtain ⟨c0, c1⟩ := hm1.bx
    clear hm1 hN1 hF1 hI
    by_cases hlt : r ≤ n
    · have hltz : (r : Int) ≤ (n : Int) := by omega
      go_wp2
      go_loopg [5, 6] n (fun gk x5 x6 wr => ∃ (w2 : World) (i : Nat) (D : List Bool), w2 = wr ∧ i ≤ n ∧ gk = n - i ∧ x5 = .int .i64 i ∧ Mk w w.heap.size g ao n c out D w2 ∧ Ni (insL L) out E i D)
      case atStart => exact ⟨_, 0, E, rfl, Nat.zero_le _, rfl, rfl, H1.out.1, ni_start H1.out.2.1⟩
      case round =>
        obtain ⟨w2, i, D, rfl, hi, rfl, rfl, hm2, hN2⟩ := hrel
        have H2 := hid (And.intro hm2 hN2)
        obtain ⟨d0, d1⟩ := hm2.bx
        clear hm2 hN2 c0 c1
        by_cases hilt : i < n
        · have hiltz : (i : Int) < (n : Int) := by omega
          have e0 := ot_bt0 H2.out.1.d hilt
          have f0 := ot_fz0 H2.out.1.d hilt
          rcases hb : bt D i with _ | _
          · by_cases ho : (i : Int) = out
            · have hoz : ((i : Int) == out) = true := by simp [ho]
              have HB : Hid (Mk w w.heap.size g ao n c out (D.set i true) (w2.setCell ⟨g, i, none⟩ (.bool true)) ∧ Nk (insL L) out E i 0 (D.set i true)) := ⟨mk_set H2.out.1 hilt true, nk_first H2.out.2 (by rw [hG.out]; exact hilt) (by rw [hb]; simp [ho])⟩
              rw [hb] at e0
              clear hb ho
              go_wp2
              go_loopg [6] n (fun gk x6 wr => ∃ (w3 : World) (k : Nat) (D3 : List Bool), w3 = wr ∧ k ≤ n ∧ gk = n - k ∧ x6 = .int .i64 k ∧ Mk w w.heap.size g ao n c out D3 w3 ∧ Nk (insL L) out E i k D3)
              case atStart => exact ⟨_, 0, _, rfl, Nat.zero_le _, rfl, rfl, HB.out.1, HB.out.2⟩
              case round =>
                obtain ⟨w3, k, D3, rfl, hk, rfl, rfl, hm3, hN3⟩ := hrel
                have H3 := hid (And.intro hm3 hN3)
                obtain ⟨g0, g1⟩ := hm3.bx
                clear hm3 hN3 d0 d1 HB
                by_cases hklt : k < n
                · have hklz : (k : Int) < (n : Int) := by omega
                  have e1 := ot_bt0 H3.out.1.d hilt
                  have e2 := ot_bt0 H3.out.1.d hklt
                  have f2 := ot_fz0 H3.out.1.d hklt
                  rcases hbi : bt D3 i with _ | _
                  · have HBi := hid hbi
                    rw [hbi] at e1
                    clear hbi e2 f2
                    go_wp2
                    go_roundg (n - (i + 1))
                    case measure => omega
                    case rel => exact ⟨_, i + 1, D3, rfl, hilt, rfl, by simp, H3.out.1, nk_end H3.out.2 (Or.inr HBi.out)⟩
                  · have HBi := hid hbi
                    rw [hbi] at e1
                    clear hbi
                    rcases hbk : bt D3 k with _ | _
                    · have HBk := hid hbk
                      rw [hbk] at e2
                      clear hbk
                      rcases hh : hasB (insL L) i k with _ | _
                      · have HC := hid (has_c hh)
                        have HH := hid hh
                        clear hh
                        go_wp2_with (first
                          | (go_at_call 39; with_reducible refine Calls.mono (has25_any _ _ _ b off L _ i _ _ (H.out.1.below H3.out.1.low) H.out.2.1 ‹_›) ?_; rintro e w4 ⟨rfl, hb⟩; have HM4 := hid (H3.out.1.below hb); clear hb e1 e2 f2 g0 g1; have e3 := ot_bt0 HM4.out.d hklt; have f3 := ot_fz0 HM4.out.d hklt; rw [HC.out]))
                        go_roundg (n - (k + 1))
                        case measure => omega
                        case rel => exact ⟨_, k + 1, D3.set k false, rfl, hklt, rfl, by simp, mk_set HM4.out hklt false, nk_step H3.out.2 (by rw [hG.out]; exact hilt) (by rw [hG.out]; exact hklt) HBi.out (by rw [HBk.out, HH.out]; simp)⟩
                      · have HC := hid (has_c hh)
                        have HH := hid hh
                        clear hh
                        go_wp2_with (first
                          | (go_at_call 39; with_reducible refine Calls.mono (has25_any _ _ _ b off L _ i _ _ (H.out.1.below H3.out.1.low) H.out.2.1 ‹_›) ?_; rintro e w4 ⟨rfl, hb⟩; have HM4 := hid (H3.out.1.below hb); clear hb e1 e2 f2 g0 g1; have e3 := ot_bt0 HM4.out.d hklt; have f3 := ot_fz0 HM4.out.d hklt; rw [HC.out]))
                        go_roundg (n - (k + 1))
                        case measure => omega
                        case rel => exact ⟨_, k + 1, D3.set k true, rfl, hklt, rfl, by simp, mk_set HM4.out hklt true, nk_step H3.out.2 (by rw [hG.out]; exact hilt) (by rw [hG.out]; exact hklt) HBi.out (by rw [HBk.out, HH.out]; simp)⟩
                    · have HBk := hid hbk
                      rw [hbk] at e2
                      clear hbk
                      go_wp2
                      go_roundg (n - (k + 1))
                      case measure => omega
                      case rel => exact ⟨_, k + 1, D3.set k true, rfl, hklt, rfl, by simp, mk_set H3.out.1 hklt true, nk_step H3.out.2 (by rw [hG.out]; exact hilt) (by rw [hG.out]; exact hklt) HBi.out (by rw [HBk.out]; simp)⟩
                · obtain rfl : k = n := by omega
                  go_wp2
                  go_roundg (k - (i + 1))
                  case measure => omega
                  case rel => exact ⟨_, i + 1, D3, rfl, hilt, rfl, by simp, H3.out.1, nk_end H3.out.2 (Or.inl hG.out.symm)⟩
            · have hoz : ((i : Int) == out) = false := by simp [ho]
              have HB : Hid (Mk w w.heap.size g ao n c out (D.set i false) (w2.setCell ⟨g, i, none⟩ (.bool false)) ∧ Nk (insL L) out E i 0 (D.set i false)) := ⟨mk_set H2.out.1 hilt false, nk_first H2.out.2 (by rw [hG.out]; exact hilt) (by rw [hb]; simp [ho])⟩
              rw [hb] at e0
              clear hb ho
              go_wp2
              go_loopg [6] n (fun gk x6 wr => ∃ (w3 : World) (k : Nat) (D3 : List Bool), w3 = wr ∧ k ≤ n ∧ gk = n - k ∧ x6 = .int .i64 k ∧ Mk w w.heap.size g ao n c out D3 w3 ∧ Nk (insL L) out E i k D3)
              case atStart => exact ⟨_, 0, _, rfl, Nat.zero_le _, rfl, rfl, HB.out.1, HB.out.2⟩
              case round =>
                obtain ⟨w3, k, D3, rfl, hk, rfl, rfl, hm3, hN3⟩ := hrel
                have H3 := hid (And.intro hm3 hN3)
                obtain ⟨g0, g1⟩ := hm3.bx
                clear hm3 hN3 d0 d1 HB
                by_cases hklt : k < n
                · have hklz : (k : Int) < (n : Int) := by omega
                  have e1 := ot_bt0 H3.out.1.d hilt
                  have e2 := ot_bt0 H3.out.1.d hklt
                  have f2 := ot_fz0 H3.out.1.d hklt
                  rcases hbi : bt D3 i with _ | _
                  · have HBi := hid hbi
                    rw [hbi] at e1
                    clear hbi e2 f2
                    go_wp2
                    go_roundg (n - (i + 1))
                    case measure => omega
                    case rel => exact ⟨_, i + 1, D3, rfl, hilt, rfl, by simp, H3.out.1, nk_end H3.out.2 (Or.inr HBi.out)⟩
                  · have HBi := hid hbi
                    rw [hbi] at e1
                    clear hbi
                    rcases hbk : bt D3 k with _ | _
                    · have HBk := hid hbk
                      rw [hbk] at e2
                      clear hbk
                      rcases hh : hasB (insL L) i k with _ | _
                      · have HC := hid (has_c hh)
                        have HH := hid hh
                        clear hh
                        go_wp2_with (first
                          | (go_at_call 39; with_reducible refine Calls.mono (has25_any _ _ _ b off L _ i _ _ (H.out.1.below H3.out.1.low) H.out.2.1 ‹_›) ?_; rintro e w4 ⟨rfl, hb⟩; have HM4 := hid (H3.out.1.below hb); clear hb e1 e2 f2 g0 g1; have e3 := ot_bt0 HM4.out.d hklt; have f3 := ot_fz0 HM4.out.d hklt; rw [HC.out]))
                        go_roundg (n - (k + 1))
                        case measure => omega
                        case rel => exact ⟨_, k + 1, D3.set k false, rfl, hklt, rfl, by simp, mk_set HM4.out hklt false, nk_step H3.out.2 (by rw [hG.out]; exact hilt) (by rw [hG.out]; exact hklt) HBi.out (by rw [HBk.out, HH.out]; simp)⟩
                      · have HC := hid (has_c hh)
                        have HH := hid hh
                        clear hh
                        go_wp2_with (first
                          | (go_at_call 39; with_reducible refine Calls.mono (has25_any _ _ _ b off L _ i _ _ (H.out.1.below H3.out.1.low) H.out.2.1 ‹_›) ?_; rintro e w4 ⟨rfl, hb⟩; have HM4 := hid (H3.out.1.below hb); clear hb e1 e2 f2 g0 g1; have e3 := ot_bt0 HM4.out.d hklt; have f3 := ot_fz0 HM4.out.d hklt; rw [HC.out]))
                        go_roundg (n - (k + 1))
                        case measure => omega
                        case rel => exact ⟨_, k + 1, D3.set k true, rfl, hklt, rfl, by simp, mk_set HM4.out hklt true, nk_step H3.out.2 (by rw [hG.out]; exact hilt) (by rw [hG.out]; exact hklt) HBi.out (by rw [HBk.out, HH.out]; simp)⟩
                    · have HBk := hid hbk
                      rw [hbk] at e2
                      clear hbk
                      go_wp2
                      go_roundg (n - (k + 1))
                      case measure => omega
                      case rel => exact ⟨_, k + 1, D3.set k true, rfl, hklt, rfl, by simp, mk_set H3.out.1 hklt true, nk_step H3.out.2 (by rw [hG.out]; exact hilt) (by rw [hG.out]; exact hklt) HBi.out (by rw [HBk.out]; simp)⟩
                · obtain rfl : k = n := by omega
                  go_wp2
                  go_roundg (k - (i + 1))
                  case measure => omega
                  case rel => exact ⟨_, i + 1, D3, rfl, hilt, rfl, by simp, H3.out.1, nk_end H3.out.2 (Or.inl hG.out.symm)⟩
          · have HB : Hid (Mk w w.heap.size g ao n c out (D.set i true) (w2.setCell ⟨g, i, none⟩ (.bool true)) ∧ Nk (insL L) out E i 0 (D.set i true)) := ⟨mk_set H2.out.1 hilt true, nk_first H2.out.2 (by rw [hG.out]; exact hilt) (by rw [hb]; simp)⟩
            rw [hb] at e0
            clear hb
            go_wp2
            go_loopg [6] n (fun gk x6 wr => ∃ (w3 : World) (k : Nat) (D3 : List Bool), w3 = wr ∧ k ≤ n ∧ gk = n - k ∧ x6 = .int .i64 k ∧ Mk w w.heap.size g ao n c out D3 w3 ∧ Nk (insL L) out E i k D3)
            case atStart => exact ⟨_, 0, _, rfl, Nat.zero_le _, rfl, rfl, HB.out.1, HB.out.2⟩
            case round =>
              obtain ⟨w3, k, D3, rfl, hk, rfl, rfl, hm3, hN3⟩ := hrel
              have H3 := hid (And.intro hm3 hN3)
              obtain ⟨g0, g1⟩ := hm3.bx
              clear hm3 hN3 d0 d1 HB
              by_cases hklt : k < n
              · have hklz : (k : Int) < (n : Int) := by omega
                have e1 := ot_bt0 H3.out.1.d hilt
                have e2 := ot_bt0 H3.out.1.d hklt
                have f2 := ot_fz0 H3.out.1.d hklt
                rcases hbi : bt D3 i with _ | _
                · have HBi := hid hbi
                  rw [hbi] at e1
                  clear hbi e2 f2
                  go_wp2
                  go_roundg (n - (i + 1))
                  case measure => omega
                  case rel => exact ⟨_, i + 1, D3, rfl, hilt, rfl, by simp, H3.out.1, nk_end H3.out.2 (Or.inr HBi.out)⟩
                · have HBi := hid hbi
                  rw [hbi] at e1
                  clear hbi
                  rcases hbk : bt D3 k with _ | _
                  · have HBk := hid hbk
                    rw [hbk] at e2
                    clear hbk
                    rcases hh : hasB (insL L) i k with _ | _
                    · have HC := hid (has_c hh)
                      have HH := hid hh
                      clear hh
                      go_wp2_with (first
                        | (go_at_call 39; with_reducible refine Calls.mono (has25_any _ _ _ b off L _ i _ _ (H.out.1.below H3.out.1.low) H.out.2.1 ‹_›) ?_; rintro e w4 ⟨rfl, hb⟩; have HM4 := hid (H3.out.1.below hb); clear hb e1 e2 f2 g0 g1; have e3 := ot_bt0 HM4.out.d hklt; have f3 := ot_fz0 HM4.out.d hklt; rw [HC.out]))
                      go_roundg (n - (k + 1))
                      case measure => omega
                      case rel => exact ⟨_, k + 1, D3.set k false, rfl, hklt, rfl, by simp, mk_set HM4.out hklt false, nk_step H3.out.2 (by rw [hG.out]; exact hilt) (by rw [hG.out]; exact hklt) HBi.out (by rw [HBk.out, HH.out]; simp)⟩
                    · have HC := hid (has_c hh)
                      have HH := hid hh
                      clear hh
                      go_wp2_with (first
                        | (go_at_call 39; with_reducible refine Calls.mono (has25_any _ _ _ b off L _ i _ _ (H.out.1.below H3.out.1.low) H.out.2.1 ‹_›) ?_; rintro e w4 ⟨rfl, hb⟩; have HM4 := hid (H3.out.1.below hb); clear hb e1 e2 f2 g0 g1; have e3 := ot_bt0 HM4.out.d hklt; have f3 := ot_fz0 HM4.out.d hklt; rw [HC.out]))
                      go_roundg (n - (k + 1))
                      case measure => omega
                      case rel => exact ⟨_, k + 1, D3.set k true, rfl, hklt, rfl, by simp, mk_set HM4.out hklt true, nk_step H3.out.2 (by rw [hG.out]; exact hilt) (by rw [hG.out]; exact hklt) HBi.out (by rw [HBk.out, HH.out]; simp)⟩
                  · have HBk := hid hbk
                    rw [hbk] at e2
                    clear hbk
                    go_wp2
                    go_roundg (n - (k + 1))
                    case measure => omega
                    case rel => exact ⟨_, k + 1, D3.set k true, rfl, hklt, rfl, by simp, mk_set H3.out.1 hklt true, nk_step H3.out.2 (by rw [hG.out]; exact hilt) (by rw [hG.out]; exact hklt) HBi.out (by rw [HBk.out]; simp)⟩
              · obtain rfl : k = n := by omega
                go_wp2
                go_roundg (k - (i + 1))
                case measure => omega
                case rel => exact ⟨_, i + 1, D3, rfl, hilt, rfl, by simp, H3.out.1, nk_end H3.out.2 (Or.inl hG.out.symm)⟩
        · obtain rfl : i = n := by omega
          go_wp2
          go_roundg (i + 1 - (r + 1))
          case measure => omega
          case rel => exact ⟨_, r + 1, D, rfl, by omega, rfl, by simp, H2.out.1, H2.out.2.r, ni_end (by rw [hG.out]; exact H2.out.2) H1.out.2.1 H1.out.2.2⟩
    · obtain rfl : r = n + 1 := by omega
      go_wp2
      go_ret
      exact ⟨⟨E, ⟨_, _, _, _, _, rfl, H1.out.1.d⟩, far_end (by rw [hG.out]; exact H1.out.2.2) H1.out.2.1⟩, H1.out.1.low⟩
end Go.Proofs.YtamojciiacmjaaaDoor
