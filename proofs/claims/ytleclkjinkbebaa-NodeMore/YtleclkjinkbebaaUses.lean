/- Who uses whom, by the code: the contract. -/
import Derived.Test.YtleclkjinkbebaaRefUses
namespace Go.Proofs.Ytleclkjinkbebaa
open Num Go.RowKit
set_option linter.unusedVariables false
set_option linter.unusedSimpArgs false
attribute [local go_sem ↓] run_app
attribute [local go_sem] lenV_slice

/-- the lists, as far as so many nodes, and so many inputs of the next one, are done -/
def UU (G : List (List Int)) (a j : Nat) : List (List Int) := (List.range G.length).map fun i => castL (usesP G a j i)
theorem uu_len (G : List (List Int)) (a j : Nat) : (UU G a j).length = G.length := by unfold UU; simp
theorem uu_get {G : List (List Int)} {a j i : Nat} (h : i < G.length) : (UU G a j)[i]? = some (castL (usesP G a j i)) := by unfold UU; rw [List.getElem?_map, List.getElem?_range h]; rfl
theorem uu_start (G : List (List Int)) : UU G 0 0 = (List.replicate G.length nilV).map Lv.l := by
  unfold UU
  rw [List.map_replicate]
  apply List.ext_getElem?
  intro i
  rw [List.getElem?_map, List.getElem?_replicate]
  by_cases h : i < G.length
  · rw [List.getElem?_range h, if_pos h]
    simp [usesP_start, castL, nilV]
  · rw [List.getElem?_eq_none (by simp; omega), if_neg h]; rfl
theorem uu_next (G : List (List Int)) (a : Nat) : UU G a (inL G a).length = UU G (a + 1) 0 := by
  unfold UU
  congr 1
  funext i
  rw [usesP_next]
theorem uu_end (G : List (List Int)) : UU G G.length 0 = (usesL G).map castL := by
  unfold UU usesL
  rw [List.map_map]
  congr 1
  funext i
  rw [usesP_end]
  rfl
theorem uu_none {G : List (List Int)} {a j : Nat} {x : Int} (hx : (inL G a)[j]? = some x) (h : plc G.length x = false) : UU G a (j + 1) = UU G a j := by
  unfold UU
  apply List.map_congr_left
  intro i hi
  have hi' := List.mem_range.1 hi
  rw [usesP_same hx]
  intro e
  subst e
  unfold plc at h
  rw [decide_eq_false_iff_not] at h
  exact h ⟨by omega, by omega⟩
theorem uu_last {G : List (List Int)} {a j i : Nat} (hx : (inL G a)[j]? = some (i : Int)) (h : (i : Int) ∈ (inL G a).take j) : UU G a (j + 1) = UU G a j := by
  unfold UU
  apply List.map_congr_left
  intro k hk
  by_cases e : k = i
  · subst e; rw [usesP_last h]
  · rw [usesP_same hx (by omega)]
theorem uu_more {G : List (List Int)} {a j i : Nat} (hx : (inL G a)[j]? = some (i : Int)) (h : ¬ ((i : Int) ∈ (inL G a).take j)) : UU G a (j + 1) = (UU G a j).set i (castL (usesP G a j i) ++ [(a : Int)]) := by
  apply List.ext_getElem?
  intro k
  rw [List.getElem?_set]
  by_cases hk : k < G.length
  · rw [uu_get hk]
    by_cases e : i = k
    · subst e
      rw [if_pos rfl, if_pos (by rw [uu_len]; exact hk), usesP_more hx h, castL_app]
      rfl
    · rw [if_neg e, uu_get hk, usesP_same hx (by omega)]
  · rw [List.getElem?_eq_none (by rw [uu_len]; omega)]
    by_cases e : i = k
    · subst e
      rw [if_pos rfl, if_neg (by rw [uu_len]; omega)]
    · rw [if_neg e, List.getElem?_eq_none (by rw [uu_len]; omega)]
theorem fs_get {B : Nat} {w : World} {ao : Option Addr} {n c g off : Nat} {V : List Lv} {U : List (List Int)} (h : V.map Lv.l = U) {i : Nat} {l : List Int} (hi : U[i]? = some l) : ∃ v, V[i]? = some v ∧ v.l = l := by
  subst h
  rw [List.getElem?_map] at hi
  cases hv : V[i]? with
  | none => rw [hv] at hi; cases hi
  | some v => rw [hv] at hi; exact ⟨v, rfl, Option.some.inj hi⟩

/-- lists are answered, as many as there are places in the block -/
def RetU1 (B : Nat) (w : World) (e : Ending) (n : Nat) (U : List (List Nat)) : Prop := ∃ g V, e = .returned (.slice (some ⟨g, 0, none⟩) n n) ∧ Fs B w (some ⟨g, 0, none⟩) n n g 0 V ∧ V.map Lv.l = U.map castL
theorem retU1 {B : Nat} {w : World} {e : Ending} {n : Nat} {U : List (List Nat)} (h : RetU1 B w e n U) : ∃ g V, e = .returned (.slice (some ⟨g, 0, none⟩) n n) ∧ Fs B w (some ⟨g, 0, none⟩) n n g 0 V ∧ V.map Lv.l = U.map castL := h
set_option maxRecDepth 100000 in
set_option maxHeartbeats 4000000 in
theorem uses1_any (ao : Option Addr) (n c b off : Nat) (L : List Nv) (out : Int) (w : World) (h : Vn w ao n c b off L) (hf : Few n L) :
    Calls Try.prog 26 #[.agg #[.slice ao n c, .int .i64 out]] w fun e w' => RetU1 w.heap.size w' e n (usesL (insL L)) ∧ Below w.heap.size w w' := by
  have hl := vn_len h
  have hn := hf.n
  have hr := run_nils n (by omega)
  have H := hid (And.intro h (And.intro hf hl))
  have hB0 := (Below.refl w.heap.size w).alloc (Nat.le_refl _) (.cells #[.slice ao n c, .int .i64 out] 24)
  have hbx := bx_new w ao n c out 24
  have hfs := fs_news (B := w.heap.size + 1) (w := w.alloc (.cells #[.slice ao n c, .int .i64 out] 24)) (by simp) n (by omega)
  have hsz : (w.alloc (.cells #[.slice ao n c, .int .i64 out] 24)).heap.size = w.heap.size + 1 := by simp
  rw [hsz] at hfs
  have hb1 : Below (w.heap.size + 1) (w.alloc (.cells #[.slice ao n c, .int .i64 out] 24)) ((w.alloc (.cells #[.slice ao n c, .int .i64 out] 24)).alloc (.cells (nils n).toArray 29)) := (Below.refl _ _).alloc (by rw [hsz]; exact Nat.le_refl _) _
  have hG : Hid ((insL L).length = n) := by show (insL L).length = n; rw [insL_len, hl]
  clear h hl hf
  go_enter Try.func26, Try.ntmps26
  go_wp2
  generalize hg : w.heap.size + 1 = g at *
  generalize ((w.alloc (.cells #[.slice ao n c, .int .i64 out] 24)).alloc (.cells (nils n).toArray 29)) = W2 at *
  generalize (w.alloc (.cells #[.slice ao n c, .int .i64 out] 24)) = W at *
  have HB := hid (And.intro hB0 (And.intro hbx (And.intro hsz (And.intro hb1 hfs))))
  clear hB0 hbx hfs hr hsz hb1 hg
  go_loopg [4, 5, 7, 15] n (fun gk x4 x5 x7 x15 wr => ∃ (w1 : World) (a : Nat) (V : List Lv), w1 = wr ∧ a ≤ n ∧ gk = n - a ∧ x15 = .int .i64 a ∧ Below g W w1 ∧ Fs g w1 (some ⟨g, 0, none⟩) n n g 0 V ∧ V.map Lv.l = UU (insL L) a 0)
  case atStart => exact ⟨_, 0, List.replicate n nilV, rfl, Nat.zero_le _, rfl, rfl, HB.out.2.2.2.1, HB.out.2.2.2.2, by rw [uu_start, hG.out]⟩
  case round =>
    obtain ⟨w1, a, V, rfl, ha, rfl, rfl, hB1, hF1, hU1⟩ := hrel
    have hBl : Below W.heap.size W w1 := by rw [HB.out.2.2.1]; exact hB1
    have H1 := hid (And.intro hB1 (And.intro hF1 (And.intro hU1 (And.intro (via (w := w) HB.out.1 hBl) (HB.out.2.1.below hBl)))))
    obtain ⟨c0, c1⟩ := H1.out.2.2.2.2
    clear hB1 hF1 hU1 hBl
    by_cases hlt : a < n
    · have hltz : (a : Int) < (n : Int) := by omega
      obtain ⟨v, hv⟩ : ∃ v, L[a]? = some v := ⟨_, List.getElem?_eq_getElem (by rw [H.out.2.2]; exact hlt)⟩
      obtain ⟨rfl, ⟨f0, f1, f2⟩, hvi, hvp⟩ := vn_at (H.out.1.below H1.out.2.2.2.1) hv
      have HE := hid (And.intro (insL_at hv) (And.intro (H.out.1.i v (List.mem_of_getElem? hv)) (vi_len hvi)))
      have hni := H.out.2.1.i v (List.mem_of_getElem? hv)
      clear hv hvi hvp
      generalize v.ai = ai at *
      generalize v.ni = ni at *
      generalize v.ci = ci at *
      generalize v.bi = bi at *
      generalize v.oi = oi at *
      generalize v.l = l at *
      generalize v.op = op at *
      generalize v.ap = ap at *
      generalize v.np = np at *
      generalize v.cp = cp at *
      clear v
      go_wp2
      have hB2 : Below w1.heap.size w1 (w1.alloc (.cells #[.int .i64 op, .slice ai ni ci, .slice ap np cp] 31)) := (Below.refl _ _).alloc (Nat.le_refl _) _
      generalize (w1.alloc (.cells #[.int .i64 op, .slice ai ni ci, .slice ap np cp] 31)) = W3 at *
      have hgw : g ≤ w1.heap.size := by have h1 := H1.out.1.size; have h2 := HB.out.2.2.1; omega
      have HN := hid (And.intro (H1.out.1.trans (hB2.mono hgw)) (H1.out.2.1.below hB2))
      clear hB2 c0 c1 f0 f1 f2 hgw
      go_loopg [7, 23] ni (fun gk x7 x23 wr => ∃ (w3 : World) (j : Nat) (V' : List Lv), w3 = wr ∧ j ≤ ni ∧ gk = ni - j ∧ x23 = .int .i64 j ∧ Below g W w3 ∧ Fs g w3 (some ⟨g, 0, none⟩) n n g 0 V' ∧ V'.map Lv.l = UU (insL L) a j)
      case atStart => exact ⟨_, 0, V, rfl, Nat.zero_le _, rfl, rfl, HN.out.1, HN.out.2, H1.out.2.2.1⟩
      case round =>
        obtain ⟨w3, j, V', rfl, hj, rfl, rfl, hB3, hF3, hU3⟩ := hrel
        have hBl : Below W.heap.size W w3 := by rw [HB.out.2.2.1]; exact hB3
        have hBw := via (w := w) HB.out.1 hBl
        have hbx := HB.out.2.1.below hBl
        obtain ⟨d0, d1⟩ := hbx
        have hgw : g ≤ w3.heap.size := by have h1 := hB3.size; have h2 := HB.out.2.2.1; omega
        have H3 := hid (And.intro hB3 (And.intro hF3 (And.intro hU3 (And.intro hBw hgw))))
        clear hB3 hF3 hU3 hBl hBw HN
        by_cases hjlt : j < ni
        · have hjlz : (j : Int) < (ni : Int) := by omega
          obtain ⟨x, hx⟩ : ∃ m, l[j]? = some m := ⟨_, List.getElem?_eq_getElem (by rw [HE.out.2.2]; exact hjlt)⟩
          have hxi : (inL (insL L) a)[j]? = some x := by rw [HE.out.1]; exact hx
          obtain ⟨rfl, e0⟩ := vi_at (HE.out.2.1.below H3.out.2.2.2.1) hx
          have HX := hid hxi
          clear hx hxi
          rcases hp : plc n x with _ | _
          · have HP := hid hp
            clear hp
            go_wp2_with (first
              | (go_at_call 37; with_reducible refine Calls.mono (has27_any _ _ _ _ _ _ ‹_›) ?_; rintro e w4 ⟨rfl, hb⟩; have HB4 := hid hb; clear hb; rw [HP.out]))
            go_roundg (ni - (j + 1))
            case measure => omega
            case rel => exact ⟨_, j + 1, V', rfl, hjlt, rfl, by simp, H3.out.1.trans (HB4.out.mono H3.out.2.2.2.2), H3.out.2.1.below HB4.out, by rw [uu_none HX.out (by rw [hG.out]; exact HP.out)]; exact H3.out.2.2.1⟩
          · obtain ⟨i, rfl⟩ : ∃ i : Nat, x = (i : Int) := ⟨x.toNat, by unfold plc at hp; simp at hp; omega⟩
            have hi : i < n := by unfold plc at hp; simp at hp; exact hp
            have hiz : (i : Int) < (n : Int) := by omega
            have HP := hid hp
            clear hp
            obtain ⟨u, hu, hul⟩ := fs_get (B := g) (w := W) (ao := none) (n := 0) (c := 0) (g := 0) (off := 0) H3.out.2.2.1 (uu_get (G := insL L) (a := a) (j := j) (by rw [hG.out]; exact hi))
            have hend : Hid (endsB u.l (a : Int) = decide ((i : Int) ∈ (inL (insL L) a).take j)) := by show endsB u.l (a : Int) = _; rw [hul, usesP_ends]
            have hun : u.n ≤ 1001 := by have h1 := vi_len (H3.out.2.1.v u (List.mem_of_getElem? hu)).v; rw [hul, castL_len] at h1; have h2 := usesP_len (insL L) a j i; omega
            have HU := hid (And.intro hu hul)
            clear hu hul
            by_cases hm : (i : Int) ∈ (inL (insL L) a).take j
            · have HM := hid hm
              have HD : Hid (endsB u.l (a : Int) = true) := by show _ = true; rw [hend.out, decide_eq_true hm]
              clear hm hend
              go_wp2_with (first
                | (go_at_call 37; with_reducible refine Calls.mono (has27_any _ _ _ _ _ _ ‹_›) ?_; rintro e w4 ⟨rfl, hb⟩; have HB4 := hid hb; rw [HP.out]; have HF4 := hid (H3.out.2.1.below hb); clear hb; obtain ⟨-, g0, g1, -⟩ := fs_at HF4.out HU.out.1; rw [Nat.zero_add] at g0 g1)
                | (go_at_call 38; with_reducible refine Calls.mono (ends_any _ _ _ u.b u.off u.l _ _ (HF4.out.v u (List.mem_of_getElem? HU.out.1)).v) ?_; rintro e w5 ⟨rfl, hw⟩; replace hw := hw.symm; subst hw; rw [HD.out]))
              go_roundg (ni - (j + 1))
              case measure => omega
              case rel => exact ⟨_, j + 1, V', rfl, hjlt, rfl, by simp, H3.out.1.trans (HB4.out.mono H3.out.2.2.2.2), HF4.out, by rw [uu_last HX.out HM.out]; exact H3.out.2.2.1⟩
            · have HM := hid hm
              have HD : Hid (endsB u.l (a : Int) = false) := by show _ = false; rw [hend.out, decide_eq_false hm]
              clear hm hend
              go_wp2_with (first
                | (go_at_call 37; with_reducible refine Calls.mono (has27_any _ _ _ _ _ _ ‹_›) ?_; rintro e w4 ⟨rfl, hb⟩; have HB4 := hid hb; rw [HP.out]; have HF4 := hid (H3.out.2.1.below hb); have hg4 := Nat.le_trans H3.out.2.2.2.2 hb.size; clear hb; obtain ⟨-, g0, g1, -⟩ := fs_at HF4.out HU.out.1; rw [Nat.zero_add] at g0 g1)
                | (go_at_call 38; with_reducible refine Calls.mono (ends_any _ _ _ u.b u.off u.l _ _ (HF4.out.v u (List.mem_of_getElem? HU.out.1)).v) ?_; rintro e w5 ⟨rfl, hw⟩; replace hw := hw.symm; subst hw; rw [HD.out]; obtain ⟨b5, o5, hA⟩ := app28 (HF4.out.v u (List.mem_of_getElem? HU.out.1)) hg4 (Nat.le_trans hun (by decide)) (a : Int); have hF := app28_fine hA; have HA := hid hA; obtain ⟨k0, k1, k2⟩ := fs_grow HF4.out HU.out.1 (a : Int) hA; have HK := hid k2; clear hA k2))
              go_roundg (ni - (j + 1))
              case measure => omega
              case rel =>
                have hw := app_wide HA.out hg4 (Nat.le_refl _)
                have hB5 := (H3.out.1.trans (HB4.out.mono H3.out.2.2.2.2)).trans hw
                have hgs : g ≤ g := Nat.le_refl _
                exact ⟨_, j + 1, _, rfl, hjlt, rfl, by simp, hB5.setCell (p := ⟨g, i, none⟩) hgs _, HK.out, by rw [uu_more HX.out HM.out, List.map_set, H3.out.2.2.1, ← HU.out.2]⟩
        · obtain rfl : j = ni := by omega
          go_wp2
          go_roundg (n - (a + 1))
          case measure => omega
          case rel => exact ⟨_, a + 1, V', rfl, hlt, rfl, by simp, H3.out.1, H3.out.2.1, by rw [H3.out.2.2.1, ← uu_next, HE.out.1, HE.out.2.2]⟩
    · obtain rfl : a = n := by omega
      go_wp2
      go_ret
      exact ⟨⟨_, V, rfl, H1.out.2.1.mono (by have h1 := HB.out.2.2.1; have h2 := HB.out.1.size; omega), by rw [H1.out.2.2.1, ← hG.out, uu_end]⟩, H1.out.2.2.2.1⟩
theorem uses_any (ao : Option Addr) (n c b off : Nat) (L : List Nv) (out : Int) (w : World) (h : Vn w ao n c b off L) (hf : Few n L) :
    Calls Try.prog 26 #[.agg #[.slice ao n c, .int .i64 out]] w fun e w' => RetU w.heap.size w' e (usesL (insL L)) ∧ Below w.heap.size w w' := by
  refine (uses1_any ao n c b off L out w h hf).mono ?_
  rintro e w' ⟨⟨g, V, h1, h2, h3⟩, hb⟩
  exact ⟨⟨_, _, _, _, _, V, h1, h2, h3⟩, hb⟩
end Go.Proofs.Ytleclkjinkbebaa
