/- Small tests of numbers: contracts. -/
import Derived.Test.YtleclkjinkbebaaGraph
import Derived.Test.YtleclkjinkbebaaBndNum
namespace Go.Proofs.Ytleclkjinkbebaa
open Num Go.RowKit
set_option linter.unusedVariables false
set_option linter.unusedSimpArgs false

theorem vi_nth' {w : World} {ao : Option Addr} {n c b off : Nat} {l : List Int} (h : Vi w ao n c b off l) {i : Nat} (hi : i < n) : ao = some ⟨b, off, none⟩ ∧ w.cell? ⟨b, off + i, none⟩ = some (.int .i64 (nth l i)) :=
  vi_at h (nth_get (by rw [vi_len h]; exact hi))
theorem side_any (n : Int) (w : World) : Calls Try.prog 36 #[.int .i64 n] w fun e w' => e = .returned (.bool (sideB n)) ∧ w' = w := by
  by_cases h0 : 0 < n
  · have e : sideB n = decide (n ≤ 4096) := by unfold sideB; rw [decide_eq_true h0, Bool.true_and]
    rw [e]
    go_enter Try.func36, Try.ntmps36
    go_wp2
    go_ret
    exact ⟨ret_bool (by simp), rfl⟩
  · have e : sideB n = false := by unfold sideB; rw [decide_eq_false h0, Bool.false_and]
    rw [e]
    go_enter Try.func36, Try.ntmps36
    go_wp2
    go_ret
    exact ⟨ret_bool (by simp), rfl⟩
theorem isPlace_any (x n : Int) (w : World) : Calls Try.prog 13 #[.int .i64 x, .int .i64 n] w fun e w' => e = .returned (.bool (decide (0 ≤ x) && decide (x < n))) ∧ w' = w := by
  by_cases h0 : 0 ≤ x
  · rw [decide_eq_true h0, Bool.true_and]
    go_enter Try.func13, Try.ntmps13
    go_wp2
    go_ret
    exact ⟨ret_bool (by simp), rfl⟩
  · rw [decide_eq_false h0, Bool.false_and]
    go_enter Try.func13, Try.ntmps13
    go_wp2
    go_ret
    exact ⟨ret_bool (by simp), rfl⟩
theorem tone_any (r g b a : Int) (w : World) :
    Calls Try.prog 35 #[.agg #[.int .u8 r, .int .u8 g, .int .u8 b, .int .u8 a]] w fun e w' => e = .returned (.bool (rightB r g b a)) ∧ Below w.heap.size w w' := by
  go_enter Try.func35, Try.ntmps35
  go_wp2
  all_goals
    go_ret
    refine ⟨ret_bool ?_, (Below.refl _ _).alloc (Nat.le_refl _) _⟩
    unfold rightB
    rw [Bool.eq_iff_iff]
    simp
    omega

set_option maxRecDepth 100000 in
set_option maxHeartbeats 1000000 in
theorem tint_any (ao : Option Addr) (n c b off : Nat) (l : List Int) (w : World) (h : Vi w ao n c b off l) :
    Calls Try.prog 22 #[.slice ao n c] w fun e w' => e = .returned (.bool (rightM l)) ∧ Below w.heap.size w w' := by
  have hl := vi_len h
  have hn := vz_small h
  by_cases he : n = 20
  · subst he
    have H : Hid (Vi w ao 20 c b off l ∧ l.length = 20) := ⟨h, hl⟩
    rw [rightM_all hl]
    clear h hl
    go_enter Try.func22, Try.ntmps22
    go_wp2
    go_loopg [10] 20 (fun g i wr => ∃ k : Nat, k ≤ 20 ∧ g = 20 - k ∧ i = .int .i64 k ∧ Below w.heap.size w wr ∧ (l.drop k).all okI = l.all okI)
    case atStart => exact ⟨0, Nat.zero_le _, rfl, rfl, Below.refl _ _, rfl⟩
    case round =>
      obtain ⟨k, hk, rfl, rfl, hB, hS⟩ := hrel
      have HB := hid hB
      by_cases hlt : k < 20
      · have hlz : (k : Int) < 20 := by omega
        obtain ⟨m, hm⟩ : ∃ s, l[k]? = some s := ⟨_, List.getElem?_eq_getElem (by rw [H.out.2]; exact hlt)⟩
        rw [Num.all_step hm] at hS
        have HS := hid hS
        obtain ⟨rfl, h0⟩ := vi_at (H.out.1.below hB) hm
        clear hS hB hm
        by_cases e1 : m < -32768
        · go_wp2
          go_ret
          exact ⟨ret_bool (by rw [← HS.out, ok_no (Or.inl e1)]; rfl), HB.out⟩
        · by_cases e2 : 32767 < m
          · go_wp2
            go_ret
            exact ⟨ret_bool (by rw [← HS.out, ok_no (Or.inr e2)]; rfl), HB.out⟩
          · go_wp2
            go_roundg (20 - (k + 1))
            case measure => omega
            case rel => exact ⟨k + 1, hlt, rfl, by simp, HB.out, by rw [← HS.out, ok_yes ⟨by omega, by omega⟩]; rfl⟩
      · obtain rfl : k = 20 := by omega
        go_wp2
        go_ret
        exact ⟨ret_bool (by rw [← hS, List.drop_eq_nil_of_le (by rw [H.out.2]; exact Nat.le_refl _)]; rfl), HB.out⟩
  · have E : rightM l = false := rightM_len (by omega)
    rw [E]
    have hne : ¬ ((n : Int) = 20) := by omega
    clear h hl E
    go_enter Try.func22, Try.ntmps22
    go_wp2
    go_ret
    exact ⟨rfl, Below.refl _ _⟩

set_option maxRecDepth 100000 in
set_option maxHeartbeats 1000000 in
/-- within's closure -/
theorem within1_any (kl ks ki km : Nat) (lo hi : Int) (s i : Nat) (ao : Option Addr) (n c b off : Nat) (l : List Int) (w : World) (h : Vi w ao n c b off l) (hi' : s + i < n)
    (cl : w.cell? ⟨kl, 0, none⟩ = some (.int .i64 lo)) (cs : w.cell? ⟨ks, 0, none⟩ = some (.int .i64 (s : Int))) (ci : w.cell? ⟨ki, 0, none⟩ = some (.int .i64 (i : Int))) (cm : w.cell? ⟨km, 0, none⟩ = some (.int .i64 hi)) :
    Calls Try.prog 32 #[.slice ao n c, .pointer (some ⟨kl, 0, none⟩), .pointer (some ⟨ks, 0, none⟩), .pointer (some ⟨ki, 0, none⟩), .pointer (some ⟨km, 0, none⟩)] w fun e w' => e = .returned (.bool (inB (s + i) lo hi l)) ∧ Below w.heap.size w w' := by
  have hn := vz_small h
  obtain ⟨rfl, c0⟩ := vi_nth' h hi'
  have hz : (s : Int) + (i : Int) < (n : Int) := by omega
  have hs0 : (0 : Int) ≤ (s : Int) := by omega
  have hi0 : (0 : Int) ≤ (i : Int) := by omega
  clear h
  by_cases h1 : lo ≤ nth l (s + i)
  · have e : inB (s + i) lo hi l = decide (nth l (s + i) ≤ hi) := by unfold inB; rw [decide_eq_true h1, Bool.true_and]
    have hd : decide (lo ≤ nth l (s + i)) = true := by simpa using h1
    rw [e]
    clear e
    generalize nth l (s + i) = v at *
    go_enter Try.func32, Try.ntmps32
    go_wp2
    go_quiet (fail)
    go_wp2
    go_ret
    exact ⟨ret_bool (by simp), below_drewN (Below.refl _ _) _⟩
  · have e : inB (s + i) lo hi l = false := by unfold inB; rw [decide_eq_false h1, Bool.false_and]
    have hd : decide (lo ≤ nth l (s + i)) = false := by simpa using h1
    rw [e]
    clear e
    generalize nth l (s + i) = v at *
    go_enter Try.func32, Try.ntmps32
    go_wp2
    go_quiet (fail)
    go_wp2
    go_ret
    exact ⟨ret_bool (by simp), below_drewN (Below.refl _ _) _⟩
end Go.Proofs.Ytleclkjinkbebaa
