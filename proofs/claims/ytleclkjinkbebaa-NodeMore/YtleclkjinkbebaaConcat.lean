/- Lists of function values, put one behind the other: contracts. -/
import Derived.Test.YtleclkjinkbebaaTile
import Derived.Laws.IdiomCopy
namespace Go.Proofs.Ytleclkjinkbebaa
open Num Go.RowKit
set_option linter.unusedVariables false
set_option linter.unusedSimpArgs false

/-- a list of values is answered, in memory of one's own -/
def RetS (B : Nat) (w : World) (e : Ending) (cs : List Value) : Prop := ∃ ao c b off, e = .returned (.slice ao cs.length c) ∧ Oz 1 B w ao cs.length c b off cs
theorem retS {B : Nat} {w : World} {e : Ending} {cs : List Value} (h : RetS B w e cs) : ∃ ao c b off, e = .returned (.slice ao cs.length c) ∧ Oz 1 B w ao cs.length c b off cs := h
theorem retS_mk {B : Nat} {w : World} {ao : Option Addr} {n c b off : Nat} {cs : List Value} (h : Oz 1 B w ao n c b off cs) : RetS B w (.returned (.slice ao n c)) cs := by
  obtain rfl : n = cs.length := by have := h.v.len; omega
  exact ⟨_, _, _, _, rfl, h⟩
theorem oz_roomy {lo C : Nat} {w : World} (hB : lo ≤ w.heap.size) (arr : Array Value) (t : TypeId) (hs : arr.size = C) (hm : C ≤ maxLen) : Oz 1 lo (w.alloc (.cells arr t)).drew (some ⟨w.heap.size, 0, none⟩) 0 C w.heap.size 0 [] := by
  have hc : ∀ j, (w.alloc (.cells arr t)).cell? ⟨w.heap.size, j, none⟩ = arr[j]? := fun j => World.cell?_alloc_new w arr t j
  refine oz_drew ⟨⟨rfl, Nat.zero_le _, hm, fun _ => rfl, lies_nil _ _ _⟩, fun _ => ⟨hB, by simp⟩, fun j hj => ?_⟩
  rw [Nat.zero_add, hc]
  exact ⟨by rw [Array.getElem?_eq_getElem (by rw [hs]; omega)]; rfl, World.frozen?_alloc_new w _ _ j⟩
set_option maxRecDepth 100000 in
set_option maxHeartbeats 1000000 in
theorem grow_any (k : Nat) (w : World) (hk0 : 0 < k) (hk : k ≤ 1000) :
    Calls Try.prog 33 #[.slice none 0 0, .int .i64 (k : Int)] w fun e w' => RetS w.heap.size w' e [] ∧ Below w.heap.size w w' := by
  have hb8 : Try.t43.bytes = 8 := rfl
  have hfit : ¬ 281474976710656 < Builtin.nextslicecap k 0 * 8 := Nat.not_lt.2 (growslice_fits (bytes := 8) (by omega) (by omega))
  have hk1 : ¬ k = 0 := by omega
  have HC := hid (And.intro (grownCap_ge w k 0 43) (grownCap_le_maxLen w k 0 43 (by simp only [maxLen]; omega)))
  unfold grownCap at HC
  go_enter Try.func33, Try.ntmps33
  go_wp2
  go_ret
  exact ⟨retS_mk (oz_roomy (Nat.le_refl _) _ _ (by rw [Array.size_append, size_zeroCells, size_zeroCells]; have := HC.out.1; show k * 1 + (_ - k) * 1 = _; omega) HC.out.2), ((Below.refl _ _).alloc (Nat.le_refl _) _).drew⟩

attribute [local go_sem ↓] run_app
attribute [local go_sem] lenV_slice
/-- a slice, and what lies in it -/
structure Sl where
  ao : Option Addr
  n : Nat
  c : Nat
  b : Nat
  off : Nat
  vs : List Value
def slC (v : Sl) : Value := .slice v.ao v.n v.c
def totN (L : List Sl) : Nat := (L.map Sl.n).sum
theorem tot_step {L : List Sl} {k : Nat} {v : Sl} (h : L[k]? = some v) : totN (L.take (k + 1)) = totN (L.take k) + v.n := by
  obtain ⟨hk, rfl⟩ := List.getElem?_eq_some_iff.1 h
  unfold totN
  rw [List.take_succ_eq_append_getElem hk, List.map_append, List.sum_append]
  simp
theorem tot_le (L : List Sl) (k : Nat) : totN (L.take k) ≤ totN L := by
  have h : totN L = totN (L.take k) + totN (L.drop k) := by
    unfold totN
    rw [← List.sum_append, ← List.map_append, List.take_append_drop]
  omega
def catV (L : List Sl) : List Value := L.flatMap Sl.vs
theorem cat_step {L : List Sl} {k : Nat} {v : Sl} (h : L[k]? = some v) : catV (L.take (k + 1)) = catV (L.take k) ++ v.vs := by
  obtain ⟨hk, rfl⟩ := List.getElem?_eq_some_iff.1 h
  unfold catV
  rw [List.take_succ_eq_append_getElem hk, List.flatMap_append]
  simp
theorem slC_at {L : List Sl} {k : Nat} {v : Sl} (h : L[k]? = some v) : (L.map slC)[k]? = some (.slice v.ao v.n v.c) := by rw [List.getElem?_map, h]; rfl
/-- the lists that are handed in -/
structure Ls (w : World) (ao : Option Addr) (m c b off : Nat) (L : List Sl) : Prop where
  v : Vz 1 w ao m c b off (L.map slC)
  each : ∀ v, v ∈ L → Vz 1 w v.ao v.n v.c v.b v.off v.vs
  one : ∀ v, v ∈ L → ∀ x ∈ v.vs, x.oneCell' = true
theorem Ls.below {w w' : World} {ao : Option Addr} {m c b off : Nat} {L : List Sl} (h : Ls w ao m c b off L) (hb : Below w.heap.size w w') : Ls w' ao m c b off L := ⟨h.v.below hb, fun v hv => (h.each v hv).below hb, h.one⟩
theorem app_bnds {lo : Nat} {w : World} {ao : Option Addr} {n c b off : Nat} {cs : List Value} (h : Oz 1 lo w ao n c b off cs) (hB : lo ≤ w.heap.size) (hn : n ≤ 1000) {ao2 : Option Addr} {m c2 b2 off2 : Nat} {us : List Value} (hu : Vz 1 w ao2 m c2 b2 off2 us) (h1 : ∀ x ∈ us, x.oneCell' = true) (hm : m ≤ 1000) :
    ∃ b'' off'', App 1 lo #[40, 40] 40 w ao n c b cs (.slice ao2 m c2) m us b'' off'' :=
  app_own h hB 40 40 40 43 _ 8 Try.underlying40 info43 rfl _ m us (src_of hu (by decide) Try.underlying40 h1) (by simp only [maxLen]; omega) (by omega)
set_option maxRecDepth 100000 in
set_option maxHeartbeats 1000000 in
theorem concat_any (ao : Option Addr) (m c b off : Nat) (L : List Sl) (w : World) (h : Ls w ao m c b off L) (h0 : 0 < totN L) (h1 : totN L ≤ 1000) (hm : m ≤ 100) :
    Calls Try.prog 23 #[.slice ao m c] w fun e w' => RetS w.heap.size w' e (catV L) ∧ Below w.heap.size w w' := by
  have hl : L.length = m := by have := h.v.len; rw [List.length_map] at this; omega
  have H := hid (And.intro h hl)
  clear h hl
  go_enter Try.func23, Try.ntmps23
  go_wp2
  go_loopg [3, 11] m (fun g x3 x11 wr => ∃ k : Nat, k ≤ m ∧ g = m - k ∧ x11 = .int .i64 k ∧ x3 = .int .i64 (totN (L.take k)) ∧ w = wr)
  case atStart => exact ⟨0, Nat.zero_le _, rfl, rfl, rfl, rfl⟩
  case round =>
    obtain ⟨k, hk, rfl, rfl, rfl, rfl⟩ := hrel
    by_cases hlt : k < m
    · have hlz : (k : Int) < (m : Int) := by omega
      obtain ⟨v, hv⟩ : ∃ v, L[k]? = some v := ⟨_, List.getElem?_eq_getElem (by rw [H.out.2]; exact hlt)⟩
      have hts := tot_step hv
      have htl := tot_le L (k + 1)
      have c0 := H.out.1.v.lies k _ (slC_at hv)
      obtain rfl := H.out.1.v.addr (by have := H.out.1.v.le; omega)
      have hvn := vz_small (H.out.1.each v (List.mem_of_getElem? hv))
      have HT := hid hts
      have hp0 : 0 ≤ (totN (L.take k) : Int) + (v.n : Int) := by omega
      have hp1 : (totN (L.take k) : Int) + (v.n : Int) ≤ 1000 := by omega
      clear hts htl hv
      go_wp2
      go_roundg (m - (k + 1))
      case measure => omega
      case rel => exact ⟨k + 1, hlt, rfl, by simp, by rw [HT.out]; simp, rfl⟩
    · obtain rfl : k = m := by omega
      rw [List.take_of_length_le (by rw [H.out.2]; exact Nat.le_refl _)]
      go_wp2_with (go_at_call 33; with_reducible refine Calls.mono (grow_any _ _ h0 h1) ?_; rintro e w1 ⟨hr, hb⟩; obtain ⟨ao1, c1, b1, o1, rfl, hO⟩ := retS hr; clear hr; have H1 := hid (And.intro hO hb); clear hO hb)
      go_loopg [6, 27] k (fun g x6 x27 wr => ∃ (w9 : World) (j : Nat) (ao2 : Option Addr) (n2 c2 b2 o2 : Nat), w9 = wr ∧ j ≤ k ∧ g = k - j ∧ x27 = .int .i64 j ∧ x6 = .slice ao2 n2 c2 ∧ Oz 1 w.heap.size w9 ao2 n2 c2 b2 o2 (catV (L.take j)) ∧ n2 = totN (L.take j) ∧ Below w.heap.size w w9)
      case atStart => exact ⟨_, 0, _, _, _, _, _, rfl, Nat.zero_le _, rfl, rfl, rfl, H1.out.1, rfl, H1.out.2⟩
      case round =>
        obtain ⟨w9, j, ao2, n2, c2, b2, o2, rfl, hj, rfl, rfl, rfl, hO, hn2, hB⟩ := hrel
        have HN := hid hn2
        clear hn2
        by_cases hlt : j < k
        · have hlz : (j : Int) < (k : Int) := by omega
          obtain ⟨v, hv⟩ : ∃ v, L[j]? = some v := ⟨_, List.getElem?_eq_getElem (by rw [H.out.2]; exact hlt)⟩
          have HL := H.out.1.below hB
          have c0 := HL.v.lies j _ (slC_at hv)
          obtain rfl := H.out.1.v.addr (by have := H.out.1.v.le; omega)
          have hts := tot_step hv
          have htl := tot_le L (j + 1)
          have htn := HN.out
          have hmem := List.mem_of_getElem? hv
          obtain ⟨b5, o5, hA⟩ := app_bnds hO hB.size (by omega) (HL.each v hmem) (HL.one v hmem) (by omega)
          have hF := hA.fine
          have HA := hid (And.intro hA (And.intro hts (And.intro (cat_step hv) hB)))
          clear HL hO hB hA hts htl htn hmem hv
          go_wp2
          go_roundg (k - (j + 1))
          case measure => omega
          case rel => exact ⟨_, j + 1, _, _, _, b5, o5, rfl, hlt, rfl, by simp, rfl, by rw [HA.out.2.2.1]; exact HA.out.1.own, by rw [HA.out.2.1, HN.out], HA.out.2.2.2.trans HA.out.1.below⟩
        · obtain rfl : j = k := by omega
          have HO := hid (And.intro hO hB)
          clear hO hB
          go_wp2
          go_ret
          have := HO.out.1
          rw [List.take_of_length_le (by rw [H.out.2]; exact Nat.le_refl _)] at this
          exact ⟨retS_mk this, HO.out.2⟩
end Go.Proofs.Ytleclkjinkbebaa
