/- Queues: places and values that may still be the greatest. -/
import Derived.Test.YtfkbdpbgeglgaaaChs
import Derived.Test.YtfkbdpbgeglgaaaJumps
import Derived.BigQuiet
import Derived.Deep.QuietTactic
namespace Go.Proofs.Ytfkbdpbgeglgaaa
open Num Go.RowKit
set_option linter.unusedVariables false
set_option linter.unusedSimpArgs false

/-- a queue: its first one is the a-th; the places and values L -/
structure Qu (w : World) (k o a : Nat) (L : List (Int × Int)) : Prop where
  first : w.cell? ⟨k, o + 1024, none⟩ = some (.int .u64 (a : Int))
  last : w.cell? ⟨k, o + 1025, none⟩ = some (.int .u64 ((a + L.length : Nat) : Int))
  pl : ∀ j x, L[j]? = some x → w.cell? ⟨k, o + (a + j) % 512, none⟩ = some (.int .i64 x.1)
  va : ∀ j x, L[j]? = some x → w.cell? ⟨k, o + 512 + (a + j) % 512, none⟩ = some (.int .u8 x.2)
  room : ∀ j, j < 1026 → (w.cell? ⟨k, o + j, none⟩).isSome = true
  fz : ∀ j, w.frozen? ⟨k, j, none⟩ = false
theorem Qu.lt {w : World} {k o a : Nat} {L : List (Int × Int)} (h : Qu w k o a L) : k < w.heap.size := World.block_lt_of_cell? w ⟨k, o + 1024, none⟩ h.first
theorem Qu.block {w w' : World} {k o a : Nat} {L : List (Int × Int)} (h : Qu w k o a L) (e : w'.heap[k]? = w.heap[k]?) : Qu w' k o a L := by
  have hc : ∀ j, w'.cell? ⟨k, j, none⟩ = w.cell? ⟨k, j, none⟩ := fun j => World.cell?_of_block (a := ⟨k, j, none⟩) e
  exact ⟨by rw [hc]; exact h.first, by rw [hc]; exact h.last, fun j x hx => by rw [hc]; exact h.pl j x hx, fun j x hx => by rw [hc]; exact h.va j x hx, fun j hj => by rw [hc]; exact h.room j hj, fun j => by rw [World.frozen?_of_block (a := ⟨k, j, none⟩) e]; exact h.fz j⟩
theorem Qu.below {w w' : World} {k o a : Nat} {L : List (Int × Int)} (h : Qu w k o a L) (hb : Below w.heap.size w w') : Qu w' k o a L := h.block (hb.block k h.lt)
theorem Qu.but {g : Nat} {w w' : World} {k o a : Nat} {L : List (Int × Int)} (h : Qu w k o a L) (hb : But g w w') (hg : k ≠ g) : Qu w' k o a L := h.block (hb.block k h.lt hg)
theorem Qu.ch {w w' : World} {k o a o' m : Nat} {L : List (Int × Int)} (h : Qu w k o a L) (hc : Ch k o' m w w') (hd : o + 1026 ≤ o' ∨ o' + m ≤ o) : Qu w' k o a L :=
  ⟨by rw [hc.out _ (by omega)]; exact h.first, by rw [hc.out _ (by omega)]; exact h.last, fun j x hx => by rw [hc.out _ (by omega)]; exact h.pl j x hx, fun j x hx => by rw [hc.out _ (by omega)]; exact h.va j x hx, fun j hj => by rw [hc.out _ (by omega)]; exact h.room j hj, fun j => by rw [hc.fz]; exact h.fz j⟩
theorem set_room {w : World} {k : Nat} {i : Nat} {v : Value} {j : Nat} (h : (w.cell? ⟨k, j, none⟩).isSome = true) : ((w.setCell ⟨k, i, none⟩ v).cell? ⟨k, j, none⟩).isSome = true := by
  by_cases e : i = j
  · subst e
    obtain ⟨u, hu⟩ := Option.isSome_iff_exists.1 h
    rw [World.cell?_setCell_same _ _ _ hu]
    rfl
  · rw [World.cell?_setCell_other _ _ _ _ (by intro h; injection h; omega)]
    exact h
theorem set_same {w : World} {k : Nat} {i : Nat} {v : Value} (h : (w.cell? ⟨k, i, none⟩).isSome = true) : (w.setCell ⟨k, i, none⟩ v).cell? ⟨k, i, none⟩ = some v := by
  obtain ⟨u, hu⟩ := Option.isSome_iff_exists.1 h
  exact World.cell?_setCell_same _ _ _ hu
theorem set_diff {w : World} {k : Nat} {i j : Nat} {v : Value} (h : i ≠ j) : (w.setCell ⟨k, i, none⟩ v).cell? ⟨k, j, none⟩ = w.cell? ⟨k, j, none⟩ :=
  World.cell?_setCell_other _ _ _ _ (by intro h; injection h; omega)
/-- the last one goes -/
theorem Qu.pop {w : World} {k o a : Nat} {L : List (Int × Int)} {x : Int × Int} (h : Qu w k o a (L ++ [x])) (e : Nat) (he : e = a + L.length) : Qu (w.setCell ⟨k, o + 1025, none⟩ (.int .u64 (e : Int))) k o a L := by
  subst he
  refine ⟨by rw [set_diff (by omega)]; exact h.first, set_same (h.room _ (by omega)), fun j y hy => ?_, fun j y hy => ?_, fun j hj => set_room (h.room j hj), fun j => by rw [World.frozen?_setCell]; exact h.fz j⟩
  · rw [set_diff (by omega)]
    have hj : j < L.length := (List.getElem?_eq_some_iff.1 hy).1
    exact h.pl j y (by rw [List.getElem?_append_left hj]; exact hy)
  · rw [set_diff (by omega)]
    have hj : j < L.length := (List.getElem?_eq_some_iff.1 hy).1
    exact h.va j y (by rw [List.getElem?_append_left hj]; exact hy)
/-- the first one goes -/
theorem Qu.away {w : World} {k o a : Nat} {L : List (Int × Int)} {x : Int × Int} (h : Qu w k o a (x :: L)) (e : Nat) (he : e = a + 1) : Qu (w.setCell ⟨k, o + 1024, none⟩ (.int .u64 (e : Int))) k o e L := by
  subst he
  refine ⟨set_same (h.room _ (by omega)), ?_, fun j y hy => ?_, fun j y hy => ?_, fun j hj => set_room (h.room j hj), fun j => by rw [World.frozen?_setCell]; exact h.fz j⟩
  · rw [set_diff (by omega), h.last, List.length_cons, show a + (L.length + 1) = a + 1 + L.length by omega]
  · rw [set_diff (by omega), show a + 1 + j = a + (j + 1) by omega]
    exact h.pl (j + 1) y hy
  · rw [set_diff (by omega), show a + 1 + j = a + (j + 1) by omega]
    exact h.va (j + 1) y hy
/-- a slot behind all is written -/
theorem Qu.place {w : World} {k o a s : Nat} {L : List (Int × Int)} (h : Qu w k o a L) (hl : L.length < 512) (hs : s = (a + L.length) % 512) (u : Value) : Qu (w.setCell ⟨k, o + s, none⟩ u) k o a L := by
  subst hs
  refine ⟨by rw [set_diff (by omega)]; exact h.first, by rw [set_diff (by omega)]; exact h.last, fun j y hy => ?_, fun j y hy => ?_, fun j hj => set_room (h.room j hj), fun j => by rw [World.frozen?_setCell]; exact h.fz j⟩
  · have hj : j < L.length := (List.getElem?_eq_some_iff.1 hy).1
    rw [set_diff (by omega)]
    exact h.pl j y hy
  · rw [set_diff (by omega)]
    exact h.va j y hy
theorem Qu.value {w : World} {k o a s : Nat} {L : List (Int × Int)} (h : Qu w k o a L) (hl : L.length < 512) (hs : s = (a + L.length) % 512) (u : Value) : Qu (w.setCell ⟨k, o + 512 + s, none⟩ u) k o a L := by
  subst hs
  refine ⟨by rw [set_diff (by omega)]; exact h.first, by rw [set_diff (by omega)]; exact h.last, fun j y hy => ?_, fun j y hy => ?_, fun j hj => set_room (h.room j hj), fun j => by rw [World.frozen?_setCell]; exact h.fz j⟩
  · rw [set_diff (by omega)]
    exact h.pl j y hy
  · have hj : j < L.length := (List.getElem?_eq_some_iff.1 hy).1
    rw [set_diff (by omega)]
    exact h.va j y hy
theorem Qu.push {w : World} {k o a s : Nat} {L : List (Int × Int)} {p v : Int} (h : Qu w k o a L) (hs : s = (a + L.length) % 512) (hp : w.cell? ⟨k, o + s, none⟩ = some (.int .i64 p)) (hv : w.cell? ⟨k, o + 512 + s, none⟩ = some (.int .u8 v)) (e : Nat) (he : e = a + L.length + 1) : Qu (w.setCell ⟨k, o + 1025, none⟩ (.int .u64 (e : Int))) k o a (L ++ [(p, v)]) := by
  subst he
  subst hs
  refine ⟨by rw [set_diff (by omega)]; exact h.first, ?_, fun j y hy => ?_, fun j y hy => ?_, fun j hj => set_room (h.room j hj), fun j => by rw [World.frozen?_setCell]; exact h.fz j⟩
  · rw [set_same (h.room _ (by omega)), List.length_append]
    rfl
  · rw [set_diff (by omega)]
    by_cases hj : j < L.length
    · rw [List.getElem?_append_left hj] at hy
      exact h.pl j y hy
    · rw [List.getElem?_append_right (by omega)] at hy
      have hj2 : j - L.length < 1 := (List.getElem?_eq_some_iff.1 hy).1
      obtain rfl : j = L.length := by omega
      simp at hy
      subst hy
      exact hp
  · rw [set_diff (by omega)]
    by_cases hj : j < L.length
    · rw [List.getElem?_append_left hj] at hy
      exact h.va j y hy
    · rw [List.getElem?_append_right (by omega)] at hy
      have hj2 : j - L.length < 1 := (List.getElem?_eq_some_iff.1 hy).1
      obtain rfl : j = L.length := by omega
      simp at hy
      subst hy
      exact hv
/-- the last one's cells -/
theorem Qu.atLast {w : World} {k o a : Nat} {L : List (Int × Int)} {x : Int × Int} (h : Qu w k o a (L ++ [x])) : w.cell? ⟨k, o + 512 + (a + L.length) % 512, none⟩ = some (.int .u8 x.2) :=
  h.va L.length x (by rw [List.getElem?_append_right (by omega)]; simp)
theorem tm512 (a : Nat) : ((a : Int)).tmod 512 = ((a % 512 : Nat) : Int) := by
  rw [Int.tmod_eq_emod_of_nonneg (by omega)]
  omega
theorem w64 {n : Int} (h : 0 ≤ n ∧ n ≤ 18446744073709551615) : IntKind.u64.wrap n = n := by rw [IntKind.wrap_u64]; omega

set_option maxRecDepth 100000 in
theorem greatest_any (k o a : Nat) (x : Int × Int) (L : List (Int × Int)) (w : World) (h : Qu w k o a (x :: L)) :
    Calls Try.prog 58 #[.pointer (some ⟨k, o, none⟩)] w fun e w' => e = .returned (.int .u8 x.2) ∧ Below w.heap.size w w' := by
  obtain ⟨s, hs⟩ : ∃ s, s = a % 512 := ⟨_, rfl⟩
  have h1 := h.first
  have h2 : w.cell? ⟨k, o + 512 + a % 512, none⟩ = some (.int .u8 x.2) := h.va 0 x rfl
  have ht := tm512 a
  rw [← hs] at h2
  rw [← hs] at ht
  have hs2 : (s : Int) < 512 := by omega
  clear hs h
  go_enter Try.func58, Try.ntmps58
  go_wp2
  go_quiet (fail)
  go_wp2
  go_ret
  exact ⟨rfl, below_drewN (Below.refl _ _) _⟩

/-- who goes out of sight at a place -/
def lv (p : Int) : List (Int × Int) → List (Int × Int)
  | [] => []
  | x :: L => if x.1 = p then L else x :: L
set_option maxRecDepth 100000 in
theorem qleave_any (k o a : Nat) (p : Int) (L : List (Int × Int)) (w : World) (h : Qu w k o a L) (ha : a ≤ 1000000) (hL : L.length < 512) :
    Calls Try.prog 59 #[.pointer (some ⟨k, o, none⟩), .int .i64 p] w fun e w' => e = .returned (.tuple #[]) ∧ (∃ a', a' ≤ a + 1 ∧ Qu w' k o a' (lv p L)) ∧ Ch k o 1026 w w' := by
  have hlt := h.lt
  have HQ := hid h
  have h1 := h.first
  have h2 := h.last
  have hf := h.fz
  cases L with
  | nil =>
    rw [List.length_nil, Nat.add_zero] at h2
    clear h
    go_enter Try.func59, Try.ntmps59
    go_wp2
    go_quiet (fail)
    go_wp2
    refine bodyPost_end (v := .tuple #[]) (by simp [results, Try.results59, go_sem]) rfl ⟨rfl, ⟨a, by omega, HQ.out.below (below_drewN (Below.refl _ _) _)⟩, Ch.of hlt (below_drewN (Below.refl _ _) _)⟩
  | cons x L =>
    obtain ⟨e, he⟩ : ∃ e, e = a + (x :: L).length := ⟨_, rfl⟩
    rw [← he] at h2
    rw [List.length_cons] at he
    obtain ⟨s, hs⟩ : ∃ s, s = a % 512 := ⟨_, rfl⟩
    have h3 : w.cell? ⟨k, o + a % 512, none⟩ = some (.int .i64 x.1) := h.pl 0 x rfl
    have ht := tm512 a
    rw [← hs] at h3
    rw [← hs] at ht
    have hs2 : (s : Int) < 512 := by omega
    have hd : decide ((a : Int) = (e : Int)) = false := decide_eq_false (by omega)
    have hd2 : ((a : Int) != (e : Int)) = true := by simp; omega
    have ha1 : IntKind.u64.wrap ((a : Int) + 1) = ((a + 1 : Nat) : Int) := w64 (by omega)
    clear hs h he
    by_cases hx : x.1 = p
    · have hdx : (x.1 == p) = true := by simp [hx]
      have HX := hid hx
      clear hx
      go_enter Try.func59, Try.ntmps59
      go_wp2
      go_quiet (fail)
      go_wp2
      refine bodyPost_end (v := .tuple #[]) (by simp [results, Try.results59, go_sem]) rfl ⟨rfl, ⟨a + 1, by omega, ?_⟩, ?_⟩
      · show Qu _ k o (a + 1) (if x.1 = p then L else x :: L)
        rw [if_pos HX.out]
        exact (HQ.out.below (below_drewN (Below.refl _ _) _)).away (a + 1) rfl
      · exact (Ch.of hlt (below_drewN (Below.refl _ _) _)).cell (by omega) (by omega) _
    · have hdx : (x.1 == p) = false := by simp [hx]
      have HX := hid hx
      go_enter Try.func59, Try.ntmps59
      go_wp2
      go_quiet (fail)
      go_wp2
      refine bodyPost_end (v := .tuple #[]) (by simp [results, Try.results59, go_sem]) rfl ⟨rfl, ⟨a, by omega, ?_⟩, ?_⟩
      · show Qu _ k o a (if x.1 = p then L else x :: L)
        rw [if_neg HX.out]
        exact HQ.out.below (below_drewN (Below.refl _ _) _)
      · exact Ch.of hlt (below_drewN (Below.refl _ _) _)
end Go.Proofs.Ytfkbdpbgeglgaaa
