/- Whether two regions have the same rectangles: the contract. -/
import Derived.Test.YtlakklpnajgjiaaStrip
namespace Go.Proofs.Ytlakklpnajgjiaa
open Num Go.RowKit
set_option linter.unusedVariables false

theorem same_step {a b : List R} {k : Nat} {r s : R} (hr : a[k]? = some r) (hs : b[k]? = some s) : decide (a.drop k = b.drop k) = (decide (r = s) && decide (a.drop (k + 1) = b.drop (k + 1))) := by
  obtain ⟨h1, rfl⟩ := List.getElem?_eq_some_iff.1 hr
  obtain ⟨h2, rfl⟩ := List.getElem?_eq_some_iff.1 hs
  rw [Bool.eq_iff_iff]
  simp only [Bool.and_eq_true, decide_eq_true_eq]
  rw [List.drop_eq_getElem_cons h1, List.drop_eq_getElem_cons h2]
  simp only [List.cons.injEq]

/-- four numbers each -/
def eq4 (a b c d p q r s : Int) : Bool := decide ((⟨a, b, c, d⟩ : R) = ⟨p, q, r, s⟩)
theorem eqR (a b c d p q r s : Int) (w : World) : (Op.equalIn 10000 36 (.agg #[.int .i64 a, .int .i64 b, .int .i64 c, .int .i64 d]) (.agg #[.int .i64 p, .int .i64 q, .int .i64 r, .int .i64 s])).run Try.prog w = .ok (eq4 a b c d p q r s) w := by
  rw [show (10000 : Nat) = 9999 + 1 from rfl]
  go_simp
  by_cases h1 : a = p
  · by_cases h2 : b = q
    · by_cases h3 : c = r
      · by_cases h4 : d = s
        · subst h1; subst h2; subst h3; subst h4; simp [eq4]
        · simp [eq4, h1, h2, h3, h4]
      · simp [eq4, h1, h2, h3]
    · simp [eq4, h1, h2]
  · simp [eq4, h1]
theorem eq4_same (a b c d : Int) : eq4 a b c d a b c d = true := by simp [eq4]
attribute [local go_sem ↓] eqR
attribute [local go_sem] eq4_same

set_option maxRecDepth 100000 in
set_option maxHeartbeats 1000000 in
theorem same_any (ao : Option Addr) (n c b off : Nat) (l : List R) (ao' : Option Addr) (n' c' b' off' : Nat) (l' : List R) (w : World) (h : Vw w ao n c b off l) (h' : Vw w ao' n' c' b' off' l') :
    Calls Try.prog 11 #[.slice ao n c, .slice ao' n' c'] w fun e w' => e = .returned (.bool (decide (l = l'))) ∧ Below w.heap.size w w' := by
  have hl := vw_len h
  have hn := vw_small h
  have hl' := vw_len h'
  have hn' := vw_small h'
  by_cases he : n = n'
  · subst he
    have H : Hid (Vw w ao n c b off l ∧ Vw w ao' n c' b' off' l' ∧ l.length = n ∧ l'.length = n) := ⟨h, h', hl, hl'⟩
    clear h h' hl hl'
    go_enter Try.func11, Try.ntmps11
    go_wp2
    go_loopg [5] n (fun g i wr => ∃ k : Nat, k ≤ n ∧ g = n - k ∧ i = .int .i64 k ∧ Below w.heap.size w wr ∧ decide (l.drop k = l'.drop k) = decide (l = l'))
    case atStart => exact ⟨0, Nat.zero_le _, rfl, rfl, Below.refl _ _, rfl⟩
    case round =>
      obtain ⟨k, hk, rfl, rfl, hB, hS⟩ := hrel
      have HS := hid hS
      have HB := hid hB
      clear hS
      by_cases hlt : k < n
      · have hlz : (k : Int) < (n : Int) := by omega
        obtain ⟨hv, hv', hl, hl'⟩ := H.out
        obtain ⟨r, hr⟩ : ∃ s, l[k]? = some s := ⟨_, List.getElem?_eq_getElem (by omega)⟩
        obtain ⟨s, hs⟩ : ∃ s, l'[k]? = some s := ⟨_, List.getElem?_eq_getElem (by omega)⟩
        have hst := same_step hr hs
        rw [HS.out] at hst
        have HT := hid hst
        obtain ⟨rfl, h0, h1, h2, h3⟩ := vw_at (hv.below hB) hr
        obtain ⟨rfl, g0, g1, g2, g3⟩ := vw_at (hv'.below hB) hs
        clear hv hv' hl hl' hr hs hst hB
        by_cases e : r = s
        · subst e
          go_wp2
          go_quiet (fail)
          go_wp2
          go_roundg (n - (k + 1))
          case measure => omega
          case rel => exact ⟨k + 1, hlt, rfl, by simp, below_drewN HB.out _, by rw [HT.out]; simp⟩
        · obtain ⟨r0, r1, r2, r3⟩ := r
          obtain ⟨s0, s1, s2, s3⟩ := s
          dsimp only at h0 h1 h2 h3 g0 g1 g2 g3
          have d1 : eq4 r0 r1 r2 r3 s0 s1 s2 s3 = false := decide_eq_false e
          go_wp2
          go_quiet (fail)
          go_wp2
          go_ret
          rw [HT.out, decide_eq_false e]
          exact ⟨rfl, below_drewN HB.out _⟩
      · obtain rfl : k = n := by omega
        go_wp2
        go_ret
        obtain ⟨-, -, hl, hl'⟩ := H.out
        rw [← HS.out, List.drop_eq_nil_of_le (by omega), List.drop_eq_nil_of_le (by omega)]
        exact ⟨rfl, hB⟩
  · have E : decide (l = l') = false := by simp; rintro rfl; omega
    rw [E]
    have hne : ¬ ((n : Int) = (n' : Int)) := by omega
    clear h h' hl hl' E
    go_enter Try.func11, Try.ntmps11
    go_wp2
    all_goals
      go_ret
      exact ⟨rfl, Below.refl _ _⟩
end Go.Proofs.Ytlakklpnajgjiaa
