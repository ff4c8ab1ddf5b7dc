/- Two filters whose nodes are alike, wherever they lie, are the same by the document's Same. -/
import Derived.Test.YtleclkjinkbebaaKeepS
namespace Go.Proofs.Ytleclkjinkbebaa
open Num Go.RowKit
set_option linter.unusedVariables false
set_option linter.unusedSimpArgs false

/-- eight cells stand: two filters' nodes, and a node of each -/
abbrev S8 (w1 : World) (k k' b q b' q' : Nat) (s s' x y z y' z' : Value) (w' : World) : Prop := (w'.cell? ⟨k, 0, none⟩ = some s ∧ w'.cell? ⟨k', 0, none⟩ = some s' ∧ w'.cell? ⟨b, q, none⟩ = some x ∧ w'.cell? ⟨b, q + 1, none⟩ = some y ∧ w'.cell? ⟨b, q + 2, none⟩ = some z ∧ w'.cell? ⟨b', q', none⟩ = some x ∧ w'.cell? ⟨b', q' + 1, none⟩ = some y' ∧ w'.cell? ⟨b', q' + 2, none⟩ = some z') ∧ Below w1.heap.size w1 w'
section
variable {w1 : World} {k k' b q b' q' : Nat} {s s' x y z y' z' : Value} {w' : World}
theorem s8_drew (h : S8 w1 k k' b q b' q' s s' x y z y' z' w') : S8 w1 k k' b q b' q' s s' x y z y' z' w'.drew := ⟨h.1, h.2.drew⟩
theorem s8_below {w2 : World} (h : S8 w1 k k' b q b' q' s s' x y z y' z' w') (hb : Below w'.heap.size w' w2) : S8 w1 k k' b q b' q' s s' x y z y' z' w2 :=
  ⟨⟨cell_below hb h.1.1, cell_below hb h.1.2.1, cell_below hb h.1.2.2.1, cell_below hb h.1.2.2.2.1, cell_below hb h.1.2.2.2.2.1, cell_below hb h.1.2.2.2.2.2.1, cell_below hb h.1.2.2.2.2.2.2.1, cell_below hb h.1.2.2.2.2.2.2.2⟩, via (w := w1) h.2 hb⟩
theorem equal_8 {ao : Option Addr} {n c g o : Nat} {l : List Int} {ao' : Option Addr} {n' c' g' o' : Nat} {l' : List Int} (h : Vi w1 ao n c g o l) (h' : Vi w1 ao' n' c' g' o' l') (e : l = l') (hs : S8 w1 k k' b q b' q' s s' x y z y' z' w') :
    Calls Try.prog 16 #[.slice ao n c, .slice ao' n' c'] w' fun e w2 => e = .returned (.bool true) ∧ Below w'.heap.size w' w2 := by
  refine (equal_any ao n c g o l ao' n' c' g' o' l' w' (h.below hs.2) (h'.below hs.2)).mono ?_
  rintro e w2 ⟨rfl, hb⟩
  subst e
  exact ⟨by rw [dec_self], hb⟩
end
set_option maxRecDepth 100000 in
set_option maxHeartbeats 8000000 in
theorem same_yes (ao : Option Addr) (n c b off : Nat) (L : List Nv) (ao' : Option Addr) (c' b' off' : Nat) (M : List Nv) (out : Int) (w : World) (h : Vn w ao n c b off L) (h' : Vn w ao' n c' b' off' M) (hk : M.map keyV = L.map keyV) :
    Calls Try.prog 11 #[.agg #[.slice ao n c, .int .i64 out], .agg #[.slice ao' n c', .int .i64 out]] w fun e w' => e = .returned (.bool true) ∧ Below w.heap.size w w' := by
  have hl := vn_len h
  have hl' := vn_len h'
  have hn := vz_small h.z
  have hB1 : Below w.heap.size w (w.alloc (.cells #[.slice ao n c, .int .i64 out] 24)) := (Below.refl _ _).alloc (Nat.le_refl _) _
  have hB0 : Below w.heap.size w ((w.alloc (.cells #[.slice ao n c, .int .i64 out] 24)).alloc (.cells #[.slice ao' n c', .int .i64 out] 24)) := alloc_low hB1 _
  have z0 : ((w.alloc (.cells #[.slice ao n c, .int .i64 out] 24)).alloc (.cells #[.slice ao' n c', .int .i64 out] 24)).cell? ⟨w.heap.size, 0, none⟩ = some (.slice ao n c) := cell_below ((Below.refl _ _).alloc (Nat.le_refl _) _) (World.cell?_alloc_new w _ _ 0)
  have z1 : ((w.alloc (.cells #[.slice ao n c, .int .i64 out] 24)).alloc (.cells #[.slice ao' n c', .int .i64 out] 24)).cell? ⟨w.heap.size + 1, 0, none⟩ = some (.slice ao' n c') := by simp
  have H := hid (And.intro (h.below hB0) (And.intro (h'.below hB0) (And.intro hk (And.intro hl (And.intro hl' (And.intro hB0 (And.intro z0 z1)))))))
  clear h h' hk hl hl' hB0 hB1 z0 z1
  go_enter Try.func11, Try.ntmps11
  go_wp2
  go_loopg [5] n (fun g k wr => ∃ (w1 : World) (j : Nat), w1 = wr ∧ j ≤ n ∧ g = n - j ∧ k = .int .i64 j ∧ Below ((w.alloc (.cells #[.slice ao n c, .int .i64 out] 24)).alloc (.cells #[.slice ao' n c', .int .i64 out] 24)).heap.size ((w.alloc (.cells #[.slice ao n c, .int .i64 out] 24)).alloc (.cells #[.slice ao' n c', .int .i64 out] 24)) w1)
  case atStart => exact ⟨_, 0, rfl, Nat.zero_le _, rfl, rfl, Below.refl _ _⟩
  case round =>
    obtain ⟨w1, j, rfl, hj, rfl, rfl, hB⟩ := hrel
    have HB := hid hB
    have x0 := cell_below hB H.out.2.2.2.2.2.2.1
    have x1 := cell_below hB H.out.2.2.2.2.2.2.2
    by_cases hlt : j < n
    · have hlz : (j : Int) < (n : Int) := by omega
      obtain ⟨v, hv⟩ : ∃ m, L[j]? = some m := ⟨_, List.getElem?_eq_getElem (by rw [H.out.2.2.2.1]; exact hlt)⟩
      obtain ⟨u, hu⟩ : ∃ m, M[j]? = some m := ⟨_, List.getElem?_eq_getElem (by rw [H.out.2.2.2.2.1]; exact hlt)⟩
      have hkey : keyV u = keyV v := by
        have e1 : (M.map keyV)[j]? = some (keyV u) := by rw [List.getElem?_map, hu]; rfl
        have e2 : (L.map keyV)[j]? = some (keyV v) := by rw [List.getElem?_map, hv]; rfl
        rw [H.out.2.2.1, e2] at e1
        exact (Option.some.inj e1).symm
      obtain ⟨k1, k2, k3⟩ : u.op = v.op ∧ u.l = v.l ∧ u.p = v.p := by
        unfold keyV at hkey
        simp only [Prod.mk.injEq] at hkey
        exact hkey
      obtain ⟨rfl, ⟨c0, c1, c2⟩, g1, g2⟩ := vn_at (H.out.1.below hB) hv
      obtain ⟨rfl, ⟨d0, d1, d2⟩, g3, g4⟩ := vn_at (H.out.2.1.below hB) hu
      rw [k1] at d0
      have HE := hid (And.intro (And.intro g1 (And.intro g3 k2.symm)) (And.intro g2 (And.intro g4 k3.symm)))
      have hS : S8 w1 w.heap.size (w.heap.size + 1) b (off + j * 3) b' (off' + j * 3) (.slice (some ⟨b, off, none⟩) n c) (.slice (some ⟨b', off', none⟩) n c') (.int .i64 v.op) (.slice v.ai v.ni v.ci) (.slice v.ap v.np v.cp) (.slice u.ai u.ni u.ci) (.slice u.ap u.np u.cp) w1 := ⟨⟨x0, x1, c0, c1, c2, d0, d1, d2⟩, Below.refl _ _⟩
      clear hv hu hkey k1 k2 k3 c0 c1 c2 d0 d1 d2 g1 g2 g3 g4 hB
      go_wp2
      clear x0 x1
      go_region_held3 (fun w' => (w'.cell? ⟨w.heap.size, 0, none⟩ = some (.slice (some ⟨b, off, none⟩) n c) ∧ w'.cell? ⟨w.heap.size + 1, 0, none⟩ = some (.slice (some ⟨b', off', none⟩) n c') ∧ w'.cell? ⟨b, off + j * 3, none⟩ = some (.int .i64 v.op) ∧ w'.cell? ⟨b, off + j * 3 + 1, none⟩ = some (.slice v.ai v.ni v.ci) ∧ w'.cell? ⟨b, off + j * 3 + 2, none⟩ = some (.slice v.ap v.np v.cp) ∧ w'.cell? ⟨b', off' + j * 3, none⟩ = some (.int .i64 v.op) ∧ w'.cell? ⟨b', off' + j * 3 + 1, none⟩ = some (.slice u.ai u.ni u.ci) ∧ w'.cell? ⟨b', off' + j * 3 + 2, none⟩ = some (.slice u.ap u.np u.cp)) ∧ Below w1.heap.size w1 w') (repeat (first | with_reducible assumption | with_reducible refine s8_drew ?_ | with_reducible refine s8_below ?_ ‹_›)) ((first
        | (go_at_call 16; with_reducible refine Calls.mono (equal_8 HE.out.1.1 HE.out.1.2.1 HE.out.1.2.2 (by with_reducible assumption)) ?_; rintro e w13 ⟨rfl, hb⟩)
        | (go_at_call 16; with_reducible refine Calls.mono (equal_8 HE.out.2.1 HE.out.2.2.1 HE.out.2.2.2 (by with_reducible assumption)) ?_; rintro e w13 ⟨rfl, hb⟩)))
      rename_i hh
      have HH := hid hh
      clear hh hS
      go_wp2
      go_roundg (n - (j + 1))
      case measure => omega
      case rel => exact ⟨_, j + 1, rfl, hlt, rfl, by simp, via (w := (w.alloc (.cells #[.slice (some ⟨b, off, none⟩) n c, .int .i64 out] 24)).alloc (.cells #[.slice (some ⟨b', off', none⟩) n c', .int .i64 out] 24)) HB.out HH.out.2⟩
    · obtain rfl : j = n := by omega
      go_wp2
      go_ret
      exact ⟨rfl, via (w := w) H.out.2.2.2.2.2.1 HB.out⟩
end Go.Proofs.Ytleclkjinkbebaa
