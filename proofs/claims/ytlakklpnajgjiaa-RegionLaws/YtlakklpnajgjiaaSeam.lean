/- Whether two bands are one, and whether bands follow: contracts. -/
import Derived.Test.YtlakklpnajgjiaaBand
namespace Go.Proofs.Ytlakklpnajgjiaa
open Num Go.RowKit
set_option linter.unusedVariables false

theorem seam_len : ∀ {a b : List R}, a.length ≠ b.length → seamB a b = false
  | [], [], h => absurd rfl h
  | [], _ :: _, _ => rfl
  | _ :: _, [], _ => rfl
  | a :: l, b :: m, h => by
    unfold seamB
    split
    · exact seam_len (by simpa using h)
    · rfl
theorem seam_step {a b : List R} {k : Nat} {r s : R} (hr : a[k]? = some r) (hs : b[k]? = some s) : seamB (a.drop k) (b.drop k) = if r.y1 = s.y0 ∧ r.x0 = s.x0 ∧ r.x1 = s.x1 then seamB (a.drop (k + 1)) (b.drop (k + 1)) else false := by
  obtain ⟨h1, rfl⟩ := List.getElem?_eq_some_iff.1 hr
  obtain ⟨h2, rfl⟩ := List.getElem?_eq_some_iff.1 hs
  rw [List.drop_eq_getElem_cons h1, List.drop_eq_getElem_cons h2]
  rfl

set_option maxRecDepth 100000 in
set_option maxHeartbeats 8000000 in
theorem seamless_any (ao : Option Addr) (n c b off : Nat) (l : List R) (ao' : Option Addr) (n' c' b' off' : Nat) (l' : List R) (w : World) (h : Vw w ao n c b off l) (h' : Vw w ao' n' c' b' off' l') :
    Calls Try.prog 57 #[.slice ao n c, .slice ao' n' c'] w fun e w' => e = .returned (.bool (seamB l l')) ∧ Below w.heap.size w w' := by
  have hl := vw_len h
  have hn := vw_small h
  have hl' := vw_len h'
  have hn' := vw_small h'
  by_cases he : n = n'
  · subst he
    have H : Hid (Vw w ao n c b off l ∧ Vw w ao' n c' b' off' l' ∧ l.length = n ∧ l'.length = n) := ⟨h, h', hl, hl'⟩
    clear h h' hl hl'
    go_enter Try.func57, Try.ntmps57
    go_wp2
    go_loopg [14] n (fun g i wr => ∃ k : Nat, k ≤ n ∧ g = n - k ∧ i = .int .i64 k ∧ Below w.heap.size w wr ∧ seamB (l.drop k) (l'.drop k) = seamB l l')
    case atStart => exact ⟨0, Nat.zero_le _, rfl, rfl, Below.refl _ _, rfl⟩
    case round =>
      obtain ⟨k, hk, rfl, rfl, hB, hS⟩ := hrel
      have HS : Hid (seamB (l.drop k) (l'.drop k) = seamB l l') := hS
      clear hS
      by_cases hlt : k < n
      · have hlz : (k : Int) < (n : Int) := by omega
        obtain ⟨hv, hv', hl, hl'⟩ := H.out
        obtain ⟨r, hr⟩ : ∃ s, l[k]? = some s := ⟨_, List.getElem?_eq_getElem (by omega)⟩
        obtain ⟨s, hs⟩ : ∃ s, l'[k]? = some s := ⟨_, List.getElem?_eq_getElem (by omega)⟩
        have hst := seam_step hr hs
        rw [HS.out] at hst
        have HT : Hid _ := hst
        obtain ⟨rfl, h0, h1, h2, h3⟩ := vw_at (hv.below hB) hr
        obtain ⟨rfl, g0, g1, g2, g3⟩ := vw_at (hv'.below hB) hs
        have hb1 : b < wr.heap.size := World.block_lt_of_cell? _ _ h0
        have hb2 : b' < wr.heap.size := World.block_lt_of_cell? _ _ g0
        clear hv hv' hl hl' hr hs hst
        by_cases e1 : r.y1 = s.y0
        · by_cases e2 : r.x0 = s.x0
          · by_cases e3 : r.x1 = s.x1
            · rw [if_pos ⟨e1, e2, e3⟩] at HT
              rw [e1] at h3
              rw [e2] at h0
              rw [e3] at h2
              clear e1 e2 e3
              go_wp2
              go_quiet (fail)
              go_wp2
              go_roundg (n - (k + 1))
              case measure => omega
              case rel => exact ⟨k + 1, hlt, rfl, by simp, below_drewN (hB.alloc hB.size _) _, HT.out.symm⟩
            · rw [if_neg (fun h => e3 h.2.2)] at HT
              rw [e1] at h3
              rw [e2] at h0
              have d1 : (r.x1 != s.x1) = true := by simpa using e3
              clear e1 e2
              go_wp2
              go_quiet (fail)
              go_wp2
              go_ret
              rw [HT.out]
              exact ⟨rfl, below_drewN (hB.alloc hB.size _) _⟩
          · rw [if_neg (fun h => e2 h.2.1)] at HT
            rw [e1] at h3
            have d1 : (r.x0 != s.x0) = true := by simpa using e2
            clear e1
            go_wp2
            go_quiet (fail)
            go_wp2
            go_ret
            rw [HT.out]
            exact ⟨rfl, below_drewN (hB.alloc hB.size _) _⟩
        · rw [if_neg (fun h => e1 h.1)] at HT
          have d1 : (r.y1 != s.y0) = true := by simpa using e1
          go_wp2
          go_quiet (fail)
          go_wp2
          go_ret
          rw [HT.out]
          exact ⟨rfl, below_drewN (hB.alloc hB.size _) _⟩
      · obtain rfl : k = n := by omega
        go_wp2
        go_ret
        obtain ⟨-, -, hl, hl'⟩ := H.out
        rw [← HS.out, List.drop_eq_nil_of_le (by omega), List.drop_eq_nil_of_le (by omega)]
        exact ⟨rfl, hB⟩
  · have E := seam_len (a := l) (b := l') (by omega)
    rw [E]
    have hne : ¬ ((n : Int) = (n' : Int)) := by omega
    clear h h' hl hl' E
    go_enter Try.func57, Try.ntmps57
    go_wp2
    all_goals
      go_ret
      exact ⟨rfl, Below.refl _ _⟩
end Go.Proofs.Ytlakklpnajgjiaa
