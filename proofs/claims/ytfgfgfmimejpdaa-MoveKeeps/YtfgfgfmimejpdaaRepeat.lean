/- Pixels over and over: the contract. -/
import Derived.Test.YtfgfgfmimejpdaaBoth
import Derived.Test.YtfgfgfmimejpdaaMoveNum
import Derived.Test.YtfgfgfmimejpdaaRightB
import Derived.Deep.LoopGhost
import Derived.Deep.Light
namespace Go.Proofs.Ytfgfgfmimejpdaa
open Num Go.RowKit
set_option linter.unusedVariables false
set_option linter.unusedSimpArgs false
attribute [local go_sem ↓] run_cp
theorem run_copy_min (w : World) (ty : TypeId) (m1 m2 k c c' b o b' o' : Nat) (l : List X) (hk : k = Nat.min m2 m1) (hl : l.length = k) (hsrc : Lies w b' o' (flat l)) (hr : ∀ j, j < k * 4 → (w.cell? ⟨b, o + j, none⟩).isSome = true ∧ w.frozen? ⟨b, o + j, none⟩ = false) :
    (Builtin.copy_ #[24, 24] ty #[.slice (some ⟨b, o, none⟩) m1 c, .slice (some ⟨b', o', none⟩) m2 c']).run Try.prog w = .ok (goInt k) (w.setCells b o (flat l)) := by
  obtain ⟨i, hi, hz0, hz1, hz2⟩ := info_parts info28
  have hst := run_storeCells_cells (P := Try.prog) b o (flat l) 0 w (fun j hj => by rw [flat_len] at hj; exact (hr j (by omega)).1) (fun j hj => by rw [flat_len] at hj; exact (hr j (by omega)).2) (one_flat _)
  have hld := run_loadCells_list (P := Try.prog) w ⟨b', o', none⟩ (flat l) (fun j v hv => by rw [Addr.add_lit]; exact hsrc j v hv)
  rw [flat_len, hl] at hld
  have hk' : min m2 m1 = k := hk.symm
  simp [Builtin.copy_, run_underlying Try.underlying24, Builtin.lenOf, Builtin.firstCells, sizeOf, typeInfo, hi, hz1, hk', hld, hst]
theorem cp_min {w : World} {ty : TypeId} {m1 m2 k c c' b o b' o' : Nat} {l : List X} (hk : k = Nat.min m2 m1) (hl : l.length = k) (hsrc : Lies w b' o' (flat l)) (hr : ∀ j, j < k * 4 → (w.cell? ⟨b, o + j, none⟩).isSome = true ∧ w.frozen? ⟨b, o + j, none⟩ = false) :
    CFine Try.prog #[24, 24] ty w (.slice (some ⟨b, o, none⟩) m1 c) (.slice (some ⟨b', o', none⟩) m2 c') ∧ cpW Try.prog #[24, 24] ty w (.slice (some ⟨b, o, none⟩) m1 c) (.slice (some ⟨b', o', none⟩) m2 c') = w.setCells b o (flat l) := by
  have h := run_copy_min w ty m1 m2 k c c' b o b' o' l hk hl hsrc hr
  exact ⟨⟨_, _, h⟩, by unfold cpW appW; rw [h]⟩

/-- one doubling -/
theorem rep_cp {lo : Nat} {w : World} {n m g off : Nat} {L L' : List X} {s K p n0 c c' o1 o2 : Nat} (hO : Ox lo w (some ⟨g, off, none⟩) n m g off L') (hL : L.length = n) (hs : s + K ≤ n) (h0 : 0 < n0) (hd : n0 ∣ p) (hp : 0 < p) (hpK : p < K) (hR : Rep L L' s p n0) (h1 : o1 = off + s * 4 + p * 4) (h2 : o2 = off + s * 4) (ty : TypeId) :
    CFine Try.prog #[24, 24] ty w (.slice (some ⟨g, o1, none⟩) (K - p) c) (.slice (some ⟨g, o2, none⟩) p c') ∧ ∃ L2, Rep L L2 s (p + Nat.min p (K - p)) n0 ∧ Ox lo (cpW Try.prog #[24, 24] ty w (.slice (some ⟨g, o1, none⟩) (K - p) c) (.slice (some ⟨g, o2, none⟩) p c')) (some ⟨g, off, none⟩) n m g off L2 ∧ But g w (cpW Try.prog #[24, 24] ty w (.slice (some ⟨g, o1, none⟩) (K - p) c) (.slice (some ⟨g, o2, none⟩) p c')) := by
  subst h1
  subst h2
  have hl' := vx_len hO.v
  have k1 : Nat.min p (K - p) ≤ p := Nat.min_le_left _ _
  have k2 : Nat.min p (K - p) ≤ K - p := Nat.min_le_right _ _
  have htk : ((L'.drop s).take (Nat.min p (K - p))).length = Nat.min p (K - p) := by rw [List.length_take, List.length_drop]; omega
  have hsrc : Lies w g (off + s * 4) (flat ((L'.drop s).take (Nat.min p (K - p)))) := by
    rw [flat_take, flat_drop]
    exact (hO.v.lies.drop _).take _
  have hle := hO.v.le
  have hr : ∀ j, j < Nat.min p (K - p) * 4 → (w.cell? ⟨g, off + s * 4 + p * 4 + j, none⟩).isSome = true ∧ w.frozen? ⟨g, off + s * 4 + p * 4 + j, none⟩ = false := by
    intro j hj
    rw [show off + s * 4 + p * 4 + j = off + (s * 4 + p * 4 + j) by omega]
    exact hO.room _ (by omega)
  obtain ⟨hF, hW⟩ := cp_min (w := w) (ty := ty) (m1 := K - p) (m2 := p) (k := Nat.min p (K - p)) (c := c) (c' := c') (b := g) (o := off + s * 4 + p * 4) (b' := g) (o' := off + s * 4) rfl htk hsrc hr
  refine ⟨hF, _, rep_more hR hd h0 rfl hpK (by omega), ?_, ?_⟩
  · rw [hW, show off + s * 4 + p * 4 = off + (s + p) * 4 by omega]
    exact ox_put hO (by rw [htk]; omega)
  · rw [hW]
    exact but_cells _ _ _ _

set_option maxRecDepth 100000 in
set_option maxHeartbeats 4000000 in
theorem repeat_any (lo g off n m : Nat) (L : List X) (s K c n0 : Nat) (w : World) (hO : Ox lo w (some ⟨g, off, none⟩) n m g off L) (hs : s + K ≤ n) (hKc : K ≤ c) (hc : c ≤ maxLen) (h0 : 0 < n0) (hnK : n0 ≤ K) (hn5 : n ≤ 5000) :
    Calls Try.prog 44 #[.slice (some ⟨g, off + s * 4, none⟩) K c, .int .i64 (n0 : Int)] w fun e w' => e = .returned (.tuple #[]) ∧ ∃ L', Rep L L' s K n0 ∧ Ox lo w' (some ⟨g, off, none⟩) n m g off L' ∧ But g w w' := by
  have hL := vx_len hO.v
  have HO := hid hO
  have HS := hid (And.intro hs (And.intro hKc (And.intro h0 hL)))
  have hK5 : K ≤ 5000 := by omega
  simp only [maxLen] at hc
  clear hO hL
  go_enter Try.func44, Try.ntmps44
  go_wp2
  go_loopg [1] (K - n0) (fun gh v1 wr => ∃ (p : Nat) (L' : List X), n0 ∣ p ∧ n0 ≤ p ∧ p ≤ 10000 ∧ gh = K - p ∧ v1 = .int .i64 (p : Int) ∧ Rep L L' s (min p K) n0 ∧ Ox lo wr (some ⟨g, off, none⟩) n m g off L' ∧ But g w wr)
  case atStart => exact ⟨n0, L, ⟨1, by omega⟩, Nat.le_refl _, by omega, by omega, rfl, by rw [Nat.min_eq_left hnK]; exact rep_start _ _ _, HO.out, But.refl _ _⟩
  case round =>
    clear HO
    obtain ⟨p, L', hd, hnp, hp1, rfl, rfl, hR, hO, hB⟩ := hrel
    by_cases hlt : p < K
    · rw [Nat.min_eq_left (by omega)] at hR
      have hz : (p : Int) < (K : Int) := by omega
      have hz2 : (p : Int) ≤ (K : Int) := by omega
      have hz3 : (p : Int) ≤ (c : Int) := by omega
      have hz4 : ¬ c = p := by omega
      have hz5 : (0 : Int) ≤ (p : Int) := by omega
      have HX := hid (And.intro hR (And.intro hO hB))
      obtain ⟨hF, L2, hR2, hO2, hB2⟩ := rep_cp (w := wr.drew) (c := c - p) (c' := c) (hO.below (Below.refl _ _).drew) HS.out.2.2.2 HS.out.1 HS.out.2.2.1 hd (by omega) hlt hR rfl rfl 3
      have HY := hid (And.intro hR2 (And.intro hO2 hB2))
      clear hR hO hB hR2 hO2 hB2
      go_wp2
      go_region_held3 (fun _ => True) (trivial) (fail)
      go_wp2
      go_roundg (K - p * 2)
      case measure => omega
      case rel => exact ⟨p * 2, L2, Nat.dvd_trans hd ⟨2, rfl⟩, by omega, by omega, by omega, by simp, by have e : Nat.min p (K - p) = min p (K - p) := rfl; rw [show min (p * 2) K = p + Nat.min p (K - p) by rw [e]; omega]; exact HY.out.1, HY.out.2.1, (HX.out.2.2.to (Below.refl _ _).drew).trans HY.out.2.2⟩
    · have hz : ¬ (p : Int) < (K : Int) := by omega
      go_wp2
      refine bodyPost_end (v := .tuple #[]) (by simp [results, Try.results44, go_sem]) rfl ⟨rfl, L', by rw [Nat.min_eq_right (by omega)] at hR; exact hR, hO, hB⟩
end Go.Proofs.Ytfgfgfmimejpdaa
