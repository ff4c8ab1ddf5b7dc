/- Whether numbers are a matrix: the contracts of both sides. -/
import Derived.Test.YtageofpkfghllaaInts
import Derived.Test.YtageofpkfghllaaRights
import Derived.Laws.IdiomCopy
import Derived.Deep.LoopGhost
import Derived.Deep.Light
namespace Go.Proofs.Ytageofpkfghllaa
open Num Go.RowKit
set_option linter.unusedVariables false
set_option linter.unusedSimpArgs false

theorem all_step {l : List Int} {k : Nat} {m : Int} (h : l[k]? = some m) : (l.drop k).all okI = (okI m && (l.drop (k + 1)).all okI) := by
  obtain ⟨hk, rfl⟩ := List.getElem?_eq_some_iff.1 h
  rw [List.drop_eq_getElem_cons hk]; rfl
theorem rightM_len {l : List Int} (h : l.length ≠ 20) : rightM l = false := by unfold rightM; simp [h]
theorem rightM_all {l : List Int} (h : l.length = 20) : rightM l = l.all okI := by unfold rightM; simp [h]
theorem rightM_bad {l : List Int} (h : l.all okI = false) : rightM l = false := by unfold rightM; rw [h, Bool.and_false]

set_option maxRecDepth 100000 in
set_option maxHeartbeats 1000000 in
theorem mRight_any (ao : Option Addr) (n c b off : Nat) (l : List Int) (w : World) (h : Vi w ao n c b off l) :
    Calls Try.prog 9 #[.slice ao n c] w fun e w' => e = .returned (.bool (rightM l)) ∧ Below w.heap.size w w' := by
  have hl := vi_len h
  have hn := vz_small h
  by_cases he : n = 20
  · subst he
    have H : Hid (Vi w ao 20 c b off l ∧ l.length = 20) := ⟨h, hl⟩
    rw [rightM_all hl]
    clear h hl
    go_enter Try.func9, Try.ntmps9
    go_wp2
    go_loopg [10] 20 (fun g i wr => ∃ k : Nat, k ≤ 20 ∧ g = 20 - k ∧ i = .int .i64 k ∧ Below w.heap.size w wr ∧ (l.drop k).all okI = l.all okI)
    case atStart => exact ⟨0, Nat.zero_le _, rfl, rfl, Below.refl _ _, rfl⟩
    case round =>
      obtain ⟨k, hk, rfl, rfl, hB, hS⟩ := hrel
      have HB := hid hB
      by_cases hlt : k < 20
      · have hlz : (k : Int) < 20 := by omega
        obtain ⟨m, hm⟩ : ∃ s, l[k]? = some s := ⟨_, List.getElem?_eq_getElem (by rw [H.out.2]; exact hlt)⟩
        rw [all_step hm] at hS
        have HS := hid hS
        obtain ⟨rfl, h0⟩ := vi_at (H.out.1.below hB) hm
        clear hS hB hm
        by_cases e1 : m < -32768
        · go_wp2
          go_ret
          exact ⟨ret_bool (by rw [← HS.out, ok_no (Or.inl e1)]; rfl), HB.out⟩
        · by_cases e2 : 32767 < m
          · go_wp2
            go_ret
            exact ⟨ret_bool (by rw [← HS.out, ok_no (Or.inr e2)]; rfl), HB.out⟩
          · go_wp2
            go_roundg (20 - (k + 1))
            case measure => omega
            case rel => exact ⟨k + 1, hlt, rfl, by simp, HB.out, by rw [← HS.out, ok_yes ⟨by omega, by omega⟩]; rfl⟩
      · obtain rfl : k = 20 := by omega
        go_wp2
        go_ret
        exact ⟨ret_bool (by rw [← hS, List.drop_eq_nil_of_le (by rw [H.out.2]; exact Nat.le_refl _)]; rfl), HB.out⟩
  · have E : rightM l = false := rightM_len (by omega)
    rw [E]
    have hne : ¬ ((n : Int) = 20) := by omega
    clear h hl E
    go_enter Try.func9, Try.ntmps9
    go_wp2
    go_ret
    exact ⟨rfl, Below.refl _ _⟩

set_option maxRecDepth 100000 in
set_option maxHeartbeats 1000000 in
theorem refMRight_any (ao : Option Addr) (n c b off : Nat) (l : List Int) (w : World) (h : Vi w ao n c b off l) :
    Calls Try.prog 10 #[.slice ao n c] w fun e w' => e = .returned (.bool (rightM l)) ∧ Below w.heap.size w w' := by
  have hn := vz_small h
  have H : Hid (Vi w ao n c b off l ∧ l.length = n) := ⟨h, vi_len h⟩
  clear h
  go_enter Try.func10, Try.ntmps10
  go_wp2
  go_loopg [3] 21 (fun g i wr => ∃ k : Nat, k ≤ 21 ∧ k ≤ n ∧ g = 21 - k ∧ i = .int .i64 k ∧ Below w.heap.size w wr ∧ (l.drop k).all okI = l.all okI)
  case atStart => exact ⟨0, Nat.zero_le _, Nat.zero_le _, rfl, rfl, Below.refl _ _, rfl⟩
  case round =>
    obtain ⟨k, hk, hkn, rfl, rfl, hB, hS⟩ := hrel
    have HB := hid hB
    by_cases hlt : k < n
    · have hlz : (k : Int) < (n : Int) := by omega
      by_cases h21 : k < 21
      · have h21z : (k : Int) < 21 := by omega
        obtain ⟨m, hm⟩ : ∃ s, l[k]? = some s := ⟨_, List.getElem?_eq_getElem (by rw [H.out.2]; exact hlt)⟩
        rw [all_step hm] at hS
        have HS := hid hS
        obtain ⟨rfl, h0⟩ := vi_at (H.out.1.below hB) hm
        clear hS hB hm
        by_cases e1 : m < -32768
        · go_wp2
          go_ret
          exact ⟨ret_bool (by rw [rightM_bad (by rw [← HS.out, ok_no (Or.inl e1)]; rfl)]), HB.out⟩
        · by_cases e2 : 32767 < m
          · go_wp2
            go_ret
            exact ⟨ret_bool (by rw [rightM_bad (by rw [← HS.out, ok_no (Or.inr e2)]; rfl)]), HB.out⟩
          · go_wp2
            go_roundg (21 - (k + 1))
            case measure => omega
            case rel => exact ⟨k + 1, h21, hlt, rfl, by simp, HB.out, by rw [← HS.out, ok_yes ⟨by omega, by omega⟩]; rfl⟩
      · obtain rfl : k = 21 := by omega
        have hne : ¬ ((n : Int) = 20) := by omega
        have E := rightM_len (l := l) (by rw [H.out.2]; omega)
        go_wp2
        go_ret
        exact ⟨ret_bool (by rw [E]; simp; omega), HB.out⟩
    · obtain rfl : n = k := by omega
      have hA : l.all okI = true := by rw [← hS, List.drop_eq_nil_of_le (by rw [H.out.2]; exact Nat.le_refl _)]; rfl
      have HE : Hid (rightM l = decide ((n : Int) = 20)) := by
        show rightM l = _
        rw [Bool.eq_iff_iff]
        unfold rightM
        rw [hA, H.out.2]
        simp
        omega
      go_wp2
      go_ret
      exact ⟨ret_bool (by rw [HE.out]; rfl), HB.out⟩
end Go.Proofs.Ytageofpkfghllaa
