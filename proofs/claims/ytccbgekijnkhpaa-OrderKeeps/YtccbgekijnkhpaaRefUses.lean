/- Who uses whom, by the document: the contract. -/
import Derived.Test.YtccbgekijnkhpaaFams
namespace Go.Proofs.Ytccbgekijnkhpaa
open Num Go.RowKit
set_option linter.unusedVariables false
set_option linter.unusedSimpArgs false
attribute [local go_sem ↓] run_app
attribute [local go_sem] lenV_slice

/-- the first so many that have it as an input -/
def usesF (G : List (List Int)) (k i : Nat) : List Nat := (List.range k).filter fun a => hasB G a i
theorem usesF_yes {G : List (List Int)} {k i : Nat} (h : hasB G k i = true) : castL (usesF G (k + 1) i) = castL (usesF G k i) ++ [(k : Int)] := by
  unfold usesF
  rw [List.range_succ, List.filter_append, castL_app]
  simp [h, castL]
theorem usesF_no {G : List (List Int)} {k i : Nat} (h : hasB G k i = false) : usesF G (k + 1) i = usesF G k i := by
  unfold usesF
  rw [List.range_succ, List.filter_append]
  simp [h]
theorem has_c {G : List (List Int)} {k i : Nat} {v : Bool} (h : hasB G k i = v) : (inL G k).contains (i : Int) = v := h
theorem usesF_len (G : List (List Int)) (k i : Nat) : (castL (usesF G k i)).length ≤ k := by
  rw [castL_len]
  unfold usesF
  have := List.length_filter_le (fun a => hasB G a i) (List.range k)
  rw [List.length_range] at this
  exact this
theorem usesU_step {G : List (List Int)} {V : List Lv} {i : Nat} (h : V.map Lv.l = ((List.range i).map (usesG G)).map castL) (v : Lv) (hv : v.l = castL (usesF G G.length i)) : (V ++ [v]).map Lv.l = ((List.range (i + 1)).map (usesG G)).map castL := by
  rw [List.range_succ, List.map_append, List.map_append, List.map_append, h]
  congr 1
  simp [hv, usesF, usesG]
theorem app_wide {sz B lo : Nat} {ts : Array TypeId} {ty : TypeId} {w : World} {o : Obj} {ao : Option Addr} {n c b : Nat} {cs : List Value} {x : Value} {m : Nat} {news : List Value} {b' off' : Nat} (h : App sz B ts ty (w.alloc o) ao n c b cs x m news b' off') (hl : lo ≤ w.heap.size) (hB : lo ≤ B) : Below lo w (apW Try.prog ts ty (w.alloc o) (.slice ao n c) x) :=
  ((Below.refl lo w).alloc hl o).trans (h.below.mono hB)

set_option maxRecDepth 100000 in
set_option maxHeartbeats 2000000 in
theorem refUses_any (ao : Option Addr) (n c b off : Nat) (L : List Nv) (out : Int) (w : World) (h : Vn w ao n c b off L) (hf : Few n L) :
    Calls Try.prog 18 #[.agg #[.slice ao n c, .int .i64 out]] w fun e w' => RetU w.heap.size w' e (usesL (insL L)) ∧ Below w.heap.size w w' := by
  have hl := vn_len h
  have hn := hf.n
  have H := hid (And.intro h (And.intro hf hl))
  have hB0 := (Below.refl w.heap.size w).alloc (Nat.le_refl _) (.cells #[.slice ao n c, .int .i64 out] 24)
  have hbx := bx_new w ao n c out 24
  have hG : Hid ((insL L).length = n) := by show (insL L).length = n; rw [insL_len, hl]
  clear h hl hf
  go_enter Try.func18, Try.ntmps18
  go_wp2
  generalize (w.alloc (.cells #[.slice ao n c, .int .i64 out] 24)) = W at *
  have HB := hid (And.intro hB0 hbx)
  clear hB0 hbx
  go_loopg [3, 4, 5, 6] n (fun gk x3 x4 x5 x6 wr => ∃ (w1 : World) (i : Nat) (ao' : Option Addr) (c' g o : Nat) (V : List Lv), w1 = wr ∧ i ≤ n ∧ gk = n - i ∧ x4 = .int .i64 i ∧ x3 = .slice ao' i c' ∧ Below W.heap.size W w1 ∧ Fs W.heap.size w1 ao' i c' g o V ∧ V.map Lv.l = ((List.range i).map (usesG (insL L))).map castL)
  case atStart => exact ⟨_, 0, none, 0, 0, 0, [], rfl, Nat.zero_le _, rfl, rfl, rfl, Below.refl _ _, fs_nil _ _ _, rfl⟩
  case round =>
    obtain ⟨w1, i, ao', c', g, o, V, rfl, hi, rfl, rfl, rfl, hB, hF, hU⟩ := hrel
    have H1 := hid (And.intro hB (And.intro (via (w := w) HB.out.1 hB) (And.intro hF hU)))
    obtain ⟨c0, c1⟩ := HB.out.2.below hB
    clear hB hF hU
    by_cases hlt : i < n
    · have hltz : (i : Int) < (n : Int) := by omega
      go_wp2
      go_loopg [5, 6] n (fun gk x5 x6 w3 => ∃ (k : Nat) (ao2 : Option Addr) (n2 c2 b2 o2 : Nat), k ≤ n ∧ gk = n - k ∧ x6 = .int .i64 k ∧ x5 = .slice ao2 n2 c2 ∧ Below w1.heap.size w1 w3 ∧ Oi w1.heap.size w3 ao2 n2 c2 b2 o2 (castL (usesF (insL L) k i)))
      case atStart => exact ⟨0, none, 0, 0, 0, 0, Nat.zero_le _, rfl, rfl, rfl, Below.refl _ _, oi_nil _ _ _⟩
      case round =>
        obtain ⟨k, ao2, n2, c2, b2, o2, hk, rfl, rfl, rfl, hB3, hO3⟩ := hrel
        have H3 := hid (And.intro hB3 hO3)
        obtain ⟨d0, d1⟩ := HB.out.2.below (via (w := W) H1.out.1 hB3)
        clear hB3 hO3 c0 c1
        by_cases hklt : k < n
        · have hkltz : (k : Int) < (n : Int) := by omega
          rcases hh : hasB (insL L) k i with _ | _
          · have HH := hid hh
            have HC := hid (has_c hh)
            clear hh
            go_wp2_with (first
              | (go_at_call 25; with_reducible refine Calls.mono (has25_any _ _ _ b off L _ k _ _ (H.out.1.below (via (w := w) H1.out.2.1 H3.out.1)) H.out.2.1 ‹_›) ?_; rintro e w4 ⟨rfl, hb⟩; have HB4 := hid hb; clear hb; rw [HC.out]))
            go_roundg (n - (k + 1))
            case measure => omega
            case rel => exact ⟨k + 1, ao2, n2, c2, b2, o2, hklt, rfl, by simp, rfl, via (w := w1) H3.out.1 HB4.out, by rw [usesF_no HH.out]; exact H3.out.2.below HB4.out⟩
          · have HH := hid hh
            have HC := hid (has_c hh)
            clear hh
            have hn2 : n2 ≤ 1000 := by have := vi_len H3.out.2.v; have := usesF_len (insL L) k i; omega
            go_wp2_with (first
              | (go_at_call 25; with_reducible refine Calls.mono (has25_any _ _ _ b off L _ k _ _ (H.out.1.below (via (w := w) H1.out.2.1 H3.out.1)) H.out.2.1 ‹_›) ?_; rintro e w4 ⟨rfl, hb⟩; have HB4 := hid hb; clear hb; rw [HC.out]; obtain ⟨b5, o5, hA⟩ := app28 (H3.out.2.below HB4.out) (Nat.le_trans H3.out.1.size HB4.out.size) (Nat.le_trans hn2 (by decide)) (k : Int); have hF := app28_fine hA; have HA := hid hA; clear hA))
            go_roundg (n - (k + 1))
            case measure => omega
            case rel =>
              have hB4 := via (w := w1) H3.out.1 HB4.out
              exact ⟨k + 1, _, n2 + 1, _, b5, o5, hklt, rfl, by simp, rfl, hB4.trans (app_wide HA.out hB4.size (Nat.le_refl _)), by rw [usesF_yes HH.out]; exact oi_app HA.out.own⟩
        · obtain rfl : k = n := by omega
          obtain ⟨b5, o5, hA⟩ := app32 (H1.out.2.2.1.below H3.out.1) (Nat.le_trans H1.out.1.size H3.out.1.size) (by omega) ⟨ao2, n2, c2, b2, o2, castL (usesF (insL L) k i)⟩
          have hF : Fine Try.prog #[32, 32] 32 (wr.alloc (.cells #[.slice ao2 n2 c2] 28)) (.slice ao' i c') (.slice (some ⟨wr.heap.size, 0, none⟩) 1 1) (i + 1) := hA.fine
          have HA := hid hA
          clear hA
          go_wp2
          go_roundg (k - (i + 1))
          case measure => omega
          case rel =>
            have hlow := via (w := W) H1.out.1 H3.out.1
            have hf2 := fs_app (H1.out.2.2.1.below H3.out.1) (v := ⟨ao2, n2, c2, b2, o2, castL (usesF (insL L) k i)⟩) (H3.out.2.mono H1.out.1.size)
              (fun hc hc' => by have h1 := (H3.out.2.new hc).1; have h2 := (H1.out.2.2.1.z.new hc').2; dsimp only at h1 ⊢; omega)
              (fun u hu hc hc' => by have h1 := ((H1.out.2.2.1.v u hu).new hc).2; have h2 := (H3.out.2.new hc').1; dsimp only at h2 ⊢; omega) HA.out
            have hwide := app_wide HA.out hlow.size (Nat.le_refl _)
            simp only [slV] at hf2 hwide
            exact ⟨_, i + 1, _, _, b5, o5, _, rfl, hlt, rfl, by simp, rfl, hlow.trans hwide, hf2, usesU_step H1.out.2.2.2 _ (by rw [hG.out])⟩
    · obtain rfl : i = n := by omega
      go_wp2
      go_ret
      exact ⟨⟨_, _, _, _, _, V, rfl, H1.out.2.2.1.mono HB.out.1.size, by unfold usesL; rw [hG.out]; exact H1.out.2.2.2⟩, H1.out.2.1⟩
end Go.Proofs.Ytccbgekijnkhpaa
