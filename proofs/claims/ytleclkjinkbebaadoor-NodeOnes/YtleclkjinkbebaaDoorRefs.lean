/- The document's small tests of parameters: contracts. -/
import Derived.Test.YtleclkjinkbebaaDoorTabs
import Derived.Deep.RegionHeld3
namespace Go.Proofs.YtleclkjinkbebaaDoor
open Num Go.RowKit
set_option linter.unusedVariables false
set_option linter.unusedSimpArgs false

theorem near_no {l : List Int} {s k t : Nat} {lo hi : Int} (h1 : k < t) (h : nth l (s + k) < lo ∨ hi < nth l (s + k)) : nearB l s t lo hi = false := by
  cases e : nearB l s t lo hi with
  | false => rfl
  | true => have := (nearB_iff l s t lo hi).1 e k h1; omega
set_option maxRecDepth 100000 in
set_option maxHeartbeats 1000000 in
theorem refNear_any (ao : Option Addr) (n c b off : Nat) (l : List Int) (s t : Nat) (lo hi : Int) (w : World) (h : Vi w ao n c b off l) (hst : s ≤ t) (htn : t ≤ n) :
    Calls Tryd.prog 17 #[.slice ao n c, .int .i64 (s : Int), .int .i64 (t : Int), .int .i64 lo, .int .i64 hi] w fun e w' => e = .returned (.bool (nearB l s (t - s) lo hi)) ∧ w' = w := by
  have hn := vz_small h
  have H := hid h
  clear h
  go_enter Tryd.func17, Tryd.ntmps17
  go_wp2
  go_loopg [11] (t - s) (fun g x11 wr => ∃ k : Nat, k ≤ t - s ∧ g = t - s - k ∧ x11 = .int .i64 ((s + k : Nat) : Int) ∧ w = wr ∧ nearB l s k lo hi = true)
  case atStart => exact ⟨0, Nat.zero_le _, rfl, rfl, rfl, rfl⟩
  case round =>
    obtain ⟨k, hk, rfl, rfl, rfl, hS⟩ := hrel
    have HS := hid hS
    clear hS
    by_cases hlt : k < t - s
    · have hlz : ((s + k : Nat) : Int) < (t : Int) := by omega
      have hln : ((s + k : Nat) : Int) < (n : Int) := by omega
      obtain ⟨rfl, c0⟩ := vi_nth' H.out (i := s + k) (by omega)
      obtain ⟨q, hq⟩ : ∃ q, q = s + k := ⟨_, rfl⟩
      have HQ := hid hq
      rw [← hq] at hlz hln c0 ⊢
      clear hq
      by_cases e1 : nth l q < lo
      · have HN : Hid (nearB l s (t - s) lo hi = false) := near_no hlt (Or.inl (by rw [← HQ.out]; exact e1))
        go_wp2
        go_ret
        exact ⟨ret_bool HN.out.symm, rfl⟩
      · by_cases e2 : hi < nth l q
        · have HN : Hid (nearB l s (t - s) lo hi = false) := near_no hlt (Or.inr (by rw [← HQ.out]; exact e2))
          go_wp2
          go_ret
          exact ⟨ret_bool HN.out.symm, rfl⟩
        · have HE := hid (And.intro e1 e2)
          go_wp2
          go_roundg (t - s - (k + 1))
          case measure => omega
          case rel => exact ⟨k + 1, hlt, rfl, by rw [HQ.out]; simp; omega, rfl, by rw [nearB_succ, HS.out, ← HQ.out]; unfold inB; have h1 := HE.out.1; have h2 := HE.out.2; simp; omega⟩
    · obtain rfl : k = t - s := by omega
      have hle : ¬ (((s + (t - s) : Nat) : Int) < (t : Int)) := by omega
      obtain ⟨q, hq⟩ : ∃ q, q = s + (t - s) := ⟨_, rfl⟩
      rw [← hq] at hle ⊢
      clear hq
      go_wp2
      go_ret
      exact ⟨ret_bool HS.out.symm, rfl⟩

set_option maxRecDepth 100000 in
set_option maxHeartbeats 1000000 in
theorem refTint_any (ao : Option Addr) (n c b off : Nat) (l : List Int) (w : World) (h : Vi w ao n c b off l) :
    Calls Tryd.prog 29 #[.slice ao n c] w fun e w' => e = .returned (.bool (rightM l)) ∧ Below w.heap.size w w' := by
  have hn := vz_small h
  have H : Hid (Vi w ao n c b off l ∧ l.length = n) := ⟨h, vi_len h⟩
  clear h
  go_enter Tryd.func29, Tryd.ntmps29
  go_wp2
  go_loopg [3] 21 (fun g i wr => ∃ k : Nat, k ≤ 21 ∧ k ≤ n ∧ g = 21 - k ∧ i = .int .i64 k ∧ Below w.heap.size w wr ∧ (l.drop k).all okI = l.all okI)
  case atStart => exact ⟨0, Nat.zero_le _, Nat.zero_le _, rfl, rfl, Below.refl _ _, rfl⟩
  case round =>
    obtain ⟨k, hk, hkn, rfl, rfl, hB, hS⟩ := hrel
    have HB := hid hB
    by_cases hlt : k < n
    · have hlz : (k : Int) < (n : Int) := by omega
      by_cases h21 : k < 21
      · have h21z : (k : Int) < 21 := by omega
        obtain ⟨m, hm⟩ : ∃ s, l[k]? = some s := ⟨_, List.getElem?_eq_getElem (by rw [H.out.2]; exact hlt)⟩
        rw [Num.all_step hm] at hS
        have HS := hid hS
        obtain ⟨rfl, h0⟩ := vi_at (H.out.1.below hB) hm
        clear hS hB hm
        by_cases e1 : m < -32768
        · go_wp2
          go_ret
          exact ⟨ret_bool (by rw [rightM_bad (by rw [← HS.out, ok_no (Or.inl e1)]; rfl)]), HB.out⟩
        · by_cases e2 : 32767 < m
          · go_wp2
            go_ret
            exact ⟨ret_bool (by rw [rightM_bad (by rw [← HS.out, ok_no (Or.inr e2)]; rfl)]), HB.out⟩
          · go_wp2
            go_roundg (21 - (k + 1))
            case measure => omega
            case rel => exact ⟨k + 1, h21, hlt, rfl, by simp, HB.out, by rw [← HS.out, ok_yes ⟨by omega, by omega⟩]; rfl⟩
      · obtain rfl : k = 21 := by omega
        have hne : ¬ ((n : Int) = 20) := by omega
        have E := rightM_len (l := l) (by rw [H.out.2]; omega)
        go_wp2
        go_ret
        exact ⟨ret_bool (by rw [E]; simp; omega), HB.out⟩
    · obtain rfl : n = k := by omega
      have hA : l.all okI = true := by rw [← hS, List.drop_eq_nil_of_le (by rw [H.out.2]; exact Nat.le_refl _)]; rfl
      have HE : Hid (rightM l = decide ((n : Int) = 20)) := by
        show rightM l = _
        rw [Bool.eq_iff_iff]
        unfold rightM
        rw [hA, H.out.2]
        simp
        omega
      go_wp2
      go_ret
      exact ⟨ret_bool (by rw [HE.out]; rfl), HB.out⟩

theorem rt_yes {r g b a : Int} (h1 : r ≤ a) (h2 : g ≤ a) (h3 : b ≤ a) : rightB r g b a = true := by simp [rightB, h1, h2, h3]
theorem rt_no {r g b a : Int} (h : ¬ (r ≤ a ∧ g ≤ a ∧ b ≤ a)) : rightB r g b a = false := by
  simp only [rightB, Bool.and_eq_false_iff, decide_eq_false_iff_not]; omega

theorem refTone0 (r g b a : Int) (w : World) (hr : 0 ≤ r ∧ r ≤ 255) (hg : 0 ≤ g ∧ g ≤ 255) (hb : 0 ≤ b ∧ b ≤ 255) (ha : 0 ≤ a ∧ a ≤ 255) :
    Calls Tryd.prog 38 #[.agg #[.int .u8 r, .int .u8 g, .int .u8 b, .int .u8 a]] w fun e w' => e = .returned (.bool (rightB r g b a)) ∧ ∃ (c : Array Value) (n : Nat), w' = (w.alloc (.cells c 59)).drewN n := by
  by_cases h1 : a < r
  · have e := rt_no (r := r) (g := g) (b := b) (a := a) (by omega)
    go_enter Tryd.func38, Tryd.ntmps38
    go_wp2
    refine wp_loop_rounds 1 ?_
    rw [rounds_succ]
    go_wp2
    go_quiet (fail)
    go_wp2
    go_ret
    exact ⟨ret_bool e.symm, _, _, by first | rfl | (simp only [World.drewN_drewN]; rfl)⟩
  by_cases h2 : a < g
  · have e := rt_no (r := r) (g := g) (b := b) (a := a) (by omega)
    go_enter Tryd.func38, Tryd.ntmps38
    go_wp2
    refine wp_loop_rounds 2 ?_
    rw [rounds_succ]
    go_wp2
    go_quiet (fail)
    go_wp2
    rw [rounds_succ]
    go_wp2
    go_quiet (fail)
    go_wp2
    go_ret
    exact ⟨ret_bool e.symm, _, _, by first | rfl | (simp only [World.drewN_drewN]; rfl)⟩
  by_cases h3 : a < b
  · have e := rt_no (r := r) (g := g) (b := b) (a := a) (by omega)
    go_enter Tryd.func38, Tryd.ntmps38
    go_wp2
    refine wp_loop_rounds 3 ?_
    rw [rounds_succ]
    go_wp2
    go_quiet (fail)
    go_wp2
    rw [rounds_succ]
    go_wp2
    go_quiet (fail)
    go_wp2
    rw [rounds_succ]
    go_wp2
    go_quiet (fail)
    go_wp2
    go_ret
    exact ⟨ret_bool e.symm, _, _, by first | rfl | (simp only [World.drewN_drewN]; rfl)⟩
  · have e := rt_yes (r := r) (g := g) (b := b) (a := a) (by omega) (by omega) (by omega)
    go_enter Tryd.func38, Tryd.ntmps38
    go_wp2
    refine wp_loop_rounds 4 ?_
    rw [rounds_succ]
    go_wp2
    go_quiet (fail)
    go_wp2
    rw [rounds_succ]
    go_wp2
    go_quiet (fail)
    go_wp2
    rw [rounds_succ]
    go_wp2
    go_quiet (fail)
    go_wp2
    rw [rounds_succ]
    go_wp2
    go_ret
    exact ⟨ret_bool e.symm, _, _, by first | rfl | (simp only [World.drewN_drewN]; rfl)⟩


theorem refTone_any (r g b a : Int) (w : World) (hr : 0 ≤ r ∧ r ≤ 255) (hg : 0 ≤ g ∧ g ≤ 255) (hb : 0 ≤ b ∧ b ≤ 255) (ha : 0 ≤ a ∧ a ≤ 255) :
    Calls Tryd.prog 38 #[.agg #[.int .u8 r, .int .u8 g, .int .u8 b, .int .u8 a]] w fun e w' => e = .returned (.bool (rightB r g b a)) ∧ Below w.heap.size w w' :=
  (refTone0 r g b a w hr hg hb ha).mono fun e w' ⟨he, c, k, hw⟩ => ⟨he, hw ▸ below_drewN ((Below.refl _ _).alloc (Nat.le_refl _) _) _⟩
end Go.Proofs.YtleclkjinkbebaaDoor
