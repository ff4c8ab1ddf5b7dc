/- Whether a place is a node's, whether a number is a list's last, whether two lists are one, whether a filter has few nodes: contracts. -/
import Derived.Test.YtleclkjinkbebaaGraph
import Derived.Test.YtleclkjinkbebaaUseNum
namespace Go.Proofs.Ytleclkjinkbebaa
open Num Go.RowKit
set_option linter.unusedVariables false
set_option linter.unusedSimpArgs false

/-- is it a node's place? -/
def plc (n : Nat) (x : Int) : Bool := decide (0 ≤ x ∧ x < (n : Int))
theorem has27_any (ao : Option Addr) (n c : Nat) (out x : Int) (w : World) (hn : n ≤ 1000) :
    Calls Try.prog 37 #[.agg #[.slice ao n c, .int .i64 out], .int .i64 x] w fun e w' => e = .returned (.bool (plc n x)) ∧ Below w.heap.size w w' := by
  by_cases h0 : 0 ≤ x
  · by_cases h1 : x < (n : Int)
    · have e : plc n x = true := by unfold plc; rw [decide_eq_true ⟨h0, h1⟩]
      rw [e]
      go_enter Try.func37, Try.ntmps37
      go_wp2
      go_ret
      exact ⟨ret_bool (by simp [h1]), (Below.refl _ _).alloc (Nat.le_refl _) _⟩
    · have e : plc n x = false := by unfold plc; rw [decide_eq_false (fun h => h1 h.2)]
      rw [e]
      go_enter Try.func37, Try.ntmps37
      go_wp2
      go_ret
      exact ⟨ret_bool (by simp [h1]), (Below.refl _ _).alloc (Nat.le_refl _) _⟩
  · have e : plc n x = false := by unfold plc; rw [decide_eq_false (fun h => h0 h.1)]
    rw [e]
    go_enter Try.func37, Try.ntmps37
    go_wp2
    go_ret
    exact ⟨ret_bool (by simp [h0]), (Below.refl _ _).alloc (Nat.le_refl _) _⟩

theorem ends_any (ao : Option Addr) (n c b off : Nat) (l : List Int) (x : Int) (w : World) (h : Vi w ao n c b off l) :
    Calls Try.prog 38 #[.slice ao n c, .int .i64 x] w fun e w' => e = .returned (.bool (endsB l x)) ∧ w' = w := by
  have hn := vz_small h
  have hl := vi_len h
  by_cases h0 : 0 < n
  · obtain ⟨m, rfl⟩ : ∃ m, n = m + 1 := ⟨n - 1, by omega⟩
    have c0 := vi_nth h (i := m) (by omega)
    obtain rfl := h.addr (by have := h.le; omega)
    have hz : ((m + 1 : Nat) : Int) - 1 = (m : Int) := by omega
    have hz1 : (m : Int) < ((m + 1 : Nat) : Int) := by omega
    have e : endsB l x = decide (nth l m = x) := by
      unfold endsB
      rw [hl, decide_eq_decide]
      exact ⟨fun h => h.2, fun h => ⟨fun hc => by subst hc; simp at hl, h⟩⟩
    rw [e]
    clear h hl e
    go_enter Try.func38, Try.ntmps38
    go_wp2
    go_ret
    exact ⟨ret_bool (by rw [Bool.eq_iff_iff]; simp), rfl⟩
  · obtain rfl : n = 0 := by omega
    have e : endsB l x = false := by
      unfold endsB
      rw [decide_eq_false]
      exact fun hc => hc.1 (List.length_eq_zero_iff.1 hl)
    rw [e]
    clear h hl e
    go_enter Try.func38, Try.ntmps38
    go_wp2
    go_ret
    exact ⟨rfl, rfl⟩

set_option maxRecDepth 100000 in
set_option maxHeartbeats 1000000 in
theorem equal_any (ao : Option Addr) (n c b off : Nat) (l : List Int) (ao' : Option Addr) (n' c' b' off' : Nat) (l' : List Int) (w : World) (h : Vi w ao n c b off l) (h' : Vi w ao' n' c' b' off' l') :
    Calls Try.prog 16 #[.slice ao n c, .slice ao' n' c'] w fun e w' => e = .returned (.bool (decide (l = l'))) ∧ Below w.heap.size w w' := by
  have hn := vz_small h
  have hn' := vz_small h'
  by_cases hne : n = n'
  · subst hne
    have H := hid (And.intro h (And.intro h' (And.intro (vi_len h) (vi_len h'))))
    clear h h'
    go_enter Try.func16, Try.ntmps16
    go_wp2
    go_loopg [5] n (fun g k wr => ∃ j : Nat, j ≤ n ∧ g = n - j ∧ k = .int .i64 j ∧ Below w.heap.size w wr ∧ l.take j = l'.take j)
    case atStart => exact ⟨0, Nat.zero_le _, rfl, rfl, Below.refl _ _, by simp⟩
    case round =>
      obtain ⟨j, hj, rfl, rfl, hB, hs⟩ := hrel
      have HB := hid hB
      have HS := hid hs
      clear hs
      by_cases hlt : j < n
      · have hlz : (j : Int) < (n : Int) := by omega
        obtain ⟨m, hm⟩ : ∃ m, l[j]? = some m := ⟨_, List.getElem?_eq_getElem (by rw [H.out.2.2.1]; exact hlt)⟩
        obtain ⟨m', hm'⟩ : ∃ m, l'[j]? = some m := ⟨_, List.getElem?_eq_getElem (by rw [H.out.2.2.2]; exact hlt)⟩
        obtain ⟨rfl, d0⟩ := vi_at (H.out.1.below hB) hm
        obtain ⟨rfl, d1⟩ := vi_at (H.out.2.1.below hB) hm'
        have HM := hid (And.intro hm hm')
        clear hB hm hm'
        by_cases e : m = m'
        · go_wp2
          go_quiet (fail)
          go_wp2
          go_roundg (n - (j + 1))
          case measure => omega
          case rel => exact ⟨j + 1, hlt, rfl, by simp, below_drewN HB.out _, by rw [List.take_add_one, List.take_add_one, HS.out, HM.out.1, HM.out.2, e]⟩
        · go_wp2
          go_quiet (fail)
          go_wp2
          go_ret
          refine ⟨ret_bool (Eq.symm ?_), below_drewN HB.out _⟩
          rw [decide_eq_false]
          intro hc
          subst hc
          rw [HM.out.1] at HM
          have := HM.out.2
          simp at this
          exact e this
      · obtain rfl : j = n := by omega
        have e : l = l' := by
          have := HS.out
          rw [List.take_of_length_le (by rw [H.out.2.2.1]; exact Nat.le_refl _), List.take_of_length_le (by rw [H.out.2.2.2]; exact Nat.le_refl _)] at this
          exact this
        go_wp2
        go_ret
        exact ⟨ret_bool (by rw [decide_eq_true e]), HB.out⟩
  · have hz : ¬ ((n : Int) = (n' : Int)) := by omega
    have e : decide (l = l') = false := by
      rw [decide_eq_false]
      intro hc
      have h1 := vi_len h
      have h2 := vi_len h'
      rw [hc] at h1
      omega
    rw [e]
    clear h h' e
    go_enter Try.func16, Try.ntmps16
    go_wp2
    go_ret
    exact ⟨rfl, Below.refl _ _⟩

def fewV (v : Nv) : Bool := decide (v.ni ≤ 20) && decide (v.np ≤ 40)
def fewB (L : List Nv) (most : Nat) : Bool := decide (L.length ≤ most) && L.all fewV
theorem all_step {l : List Nv} {k : Nat} {m : Nv} (h : l[k]? = some m) : (l.drop k).all fewV = (fewV m && (l.drop (k + 1)).all fewV) := by
  obtain ⟨hk, rfl⟩ := List.getElem?_eq_some_iff.1 h
  rw [List.drop_eq_getElem_cons hk]; rfl
set_option maxRecDepth 100000 in
set_option maxHeartbeats 1000000 in
theorem few_any (ao : Option Addr) (n c b off : Nat) (L : List Nv) (out : Int) (most : Nat) (w : World) (h : Vn w ao n c b off L) (hmost : most ≤ 1000) :
    Calls Try.prog 7 #[.agg #[.slice ao n c, .int .i64 out], .int .i64 most] w fun e w' => e = .returned (.bool (fewB L most)) ∧ Below w.heap.size w w' := by
  have hl := vn_len h
  have hn := vz_small h.z
  by_cases hm : n ≤ most
  · have hmz : ¬ ((most : Int) < (n : Int)) := by omega
    have e : fewB L most = L.all fewV := by unfold fewB; rw [hl, decide_eq_true hm, Bool.true_and]
    rw [e]
    have H := hid (And.intro h hl)
    clear h hl e
    go_enter Try.func7, Try.ntmps7
    go_wp2
    go_loopg [5] n (fun g k wr => ∃ j : Nat, j ≤ n ∧ g = n - j ∧ k = .int .i64 j ∧ wr = w.alloc (.cells #[.slice ao n c, .int .i64 out] 24) ∧ (L.drop j).all fewV = L.all fewV)
    case atStart => exact ⟨0, Nat.zero_le _, rfl, rfl, rfl, rfl⟩
    case round =>
      obtain ⟨j, hj, rfl, rfl, rfl, hs⟩ := hrel
      by_cases hlt : j < n
      · have hlz : (j : Int) < (n : Int) := by omega
        obtain ⟨v, hv⟩ : ∃ m, L[j]? = some m := ⟨_, List.getElem?_eq_getElem (by rw [H.out.2]; exact hlt)⟩
        rw [all_step hv] at hs
        have HS := hid hs
        obtain ⟨rfl, ⟨c0, c1, c2⟩, g1, g2⟩ := vn_at H.out.1 hv
        have hb := World.block_lt_of_cell? _ _ c1
        have k1 := vz_small g1
        have k2 := vz_small g2
        clear hs hv c0 g1 g2
        by_cases e1 : v.ni ≤ 20
        · have e1z : ¬ (20 < (v.ni : Int)) := by omega
          by_cases e2 : v.np ≤ 40
          · have e2z : ¬ (40 < (v.np : Int)) := by omega
            go_wp2
            go_roundg (n - (j + 1))
            case measure => omega
            case rel => exact ⟨j + 1, hlt, rfl, by simp, rfl, by rw [← HS.out]; simp [fewV, e1, e2]⟩
          · have e2z : 40 < (v.np : Int) := by omega
            go_wp2
            go_ret
            exact ⟨ret_bool (by rw [← HS.out]; simp [fewV, e2]), (Below.refl _ _).alloc (Nat.le_refl _) _⟩
        · have e1z : 20 < (v.ni : Int) := by omega
          go_wp2
          go_ret
          exact ⟨ret_bool (by rw [← HS.out]; simp [fewV, e1]), (Below.refl _ _).alloc (Nat.le_refl _) _⟩
      · obtain rfl : j = n := by omega
        have HS := hid hs
        clear hs
        go_wp2
        go_ret
        exact ⟨ret_bool (by rw [← HS.out, List.drop_eq_nil_of_le (by rw [H.out.2]; exact Nat.le_refl _)]; rfl), (Below.refl _ _).alloc (Nat.le_refl _) _⟩
  · have hmz : (most : Int) < (n : Int) := by omega
    have e : fewB L most = false := by unfold fewB; rw [hl, decide_eq_false hm, Bool.false_and]
    rw [e]
    clear h hl e
    go_enter Try.func7, Try.ntmps7
    go_wp2
    go_ret
    exact ⟨rfl, (Below.refl _ _).alloc (Nat.le_refl _) _⟩
theorem few_of {n : Nat} {L : List Nv} {most : Nat} (hl : L.length = n) (h : fewB L most = true) (hm : most ≤ 1000) : n ≤ most ∧ Few n L ∧ ∀ v, v ∈ L → v.ni ≤ 20 ∧ v.np ≤ 40 := by
  unfold fewB at h
  rw [Bool.and_eq_true, decide_eq_true_eq, List.all_eq_true] at h
  have h2 : ∀ v, v ∈ L → v.ni ≤ 20 ∧ v.np ≤ 40 := fun v hv => by
    have := h.2 v hv
    unfold fewV at this
    simpa using this
  exact ⟨by omega, ⟨by omega, fun v hv => by have := (h2 v hv).1; omega⟩, h2⟩
end Go.Proofs.Ytleclkjinkbebaa
