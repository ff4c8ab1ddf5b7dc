/- How many inputs each node lacks, by the code: the contract. -/
import Derived.Test.YtleclkjinkbebaaUses
namespace Go.Proofs.Ytleclkjinkbebaa
open Num Go.RowKit
set_option linter.unusedVariables false
set_option linter.unusedSimpArgs false

namespace Num
theorem flatten_le {m : Nat} : ∀ {U : List (List Nat)}, (∀ u, u ∈ U → u.length ≤ m) → U.flatten.length ≤ m * U.length
  | [], _ => by simp
  | u :: U, h => by
    have h1 := flatten_le (U := U) (fun v hv => h v (List.mem_cons_of_mem _ hv))
    have h2 := h u (by simp)
    rw [List.flatten_cons, List.length_append, List.length_cons, Nat.mul_add]
    omega
theorem lackP_le {m : Nat} {U : List (List Nat)} (h : ∀ u, u ∈ U → u.length ≤ m) (i j k : Nat) (hi : i ≤ U.length) (hj : j ≤ m) : lackP U i j k ≤ m * (U.length + 1) := by
  unfold lackP
  have h1 : ((U.take i).flatten ++ (U.getD i []).take j).count k ≤ ((U.take i).flatten ++ (U.getD i []).take j).length := List.count_le_length
  have h2 := flatten_le (U := U.take i) (m := m) (fun u hu => h u (List.mem_of_mem_take hu))
  rw [List.length_append] at h1
  rw [List.length_take] at h2
  have h3 : ((U.getD i []).take j).length ≤ j := by rw [List.length_take]; omega
  have h4 : m * min i U.length ≤ m * U.length := Nat.mul_le_mul_left _ (by omega)
  rw [Nat.mul_add]
  omega
/-- the array holds how often each stands in the first lists -/
def Lk (U : List (List Nat)) (n i j : Nat) (K : List Int) : Prop := K.length = n ∧ ∀ k, k < n → nth K k = (lackP U i j k : Int)
theorem lk_start (U : List (List Nat)) (n : Nat) : Lk U n 0 0 (List.replicate n 0) := ⟨by simp, fun k hk => by rw [lackP_start]; unfold nth; rw [List.getD_eq_getElem?_getD, List.getElem?_replicate, if_pos hk]; rfl⟩
theorem lk_next {U : List (List Nat)} {n i : Nat} {K : List Int} (h : Lk U n i (U.getD i []).length K) (hi : i < U.length) : Lk U n (i + 1) 0 K := ⟨h.1, fun k hk => by rw [h.2 k hk, lackP_next k hi]⟩
theorem lk_step {U : List (List Nat)} {n i j u : Nat} {K : List Int} (h : Lk U n i j K) (hu : (U.getD i [])[j]? = some u) (hn : u < n) : Lk U n i (j + 1) (K.set u (nth K u + 1)) := by
  refine ⟨by simpa using h.1, fun k hk => ?_⟩
  rw [lackP_step k hu]
  by_cases e : u = k
  · subst e
    rw [nth_set_eq (by rw [h.1]; exact hn), h.2 u hn, if_pos rfl]
    omega
  · rw [nth_set_ne e, h.2 k hk, if_neg e]
    omega
end Num
theorem oi_set0 {B : Nat} {w : World} {ao : Option Addr} {n c b : Nat} {l : List Int} (h : Oi B w ao n c b 0 l) {i : Nat} (hi : i < n) (v : Int) : Oi B (w.setCell ⟨b, i, none⟩ (.int .i64 v)) ao n c b 0 (l.set i v) := by
  have := oi_set h hi v
  rw [Nat.zero_add] at this
  exact this
theorem oi_nth0 {B : Nat} {w : World} {ao : Option Addr} {n c b : Nat} {l : List Int} (h : Oi B w ao n c b 0 l) {i : Nat} (hi : i < n) : w.cell? ⟨b, i, none⟩ = some (.int .i64 (nth l i)) := by
  have := vi_nth h.v hi
  rw [Nat.zero_add] at this
  exact this
theorem oi_fz0 {B : Nat} {w : World} {ao : Option Addr} {n c b : Nat} {l : List Int} (h : Oi B w ao n c b 0 l) {i : Nat} (hi : i < n) : w.frozen? ⟨b, i, none⟩ = false := by
  have := oi_fz h hi
  rw [Nat.zero_add] at this
  exact this
/-- a list is answered, as many as there are places in the block -/
def RetI1 (B : Nat) (w : World) (e : Ending) (n : Nat) (l : List Int) : Prop := ∃ g, e = .returned (.slice (some ⟨g, 0, none⟩) n n) ∧ Oi B w (some ⟨g, 0, none⟩) n n g 0 l ∧ B ≤ g ∧ g < w.heap.size
theorem retI1 {B : Nat} {w : World} {e : Ending} {n : Nat} {l : List Int} (h : RetI1 B w e n l) : ∃ g, e = .returned (.slice (some ⟨g, 0, none⟩) n n) ∧ Oi B w (some ⟨g, 0, none⟩) n n g 0 l ∧ B ≤ g ∧ g < w.heap.size := h

set_option maxRecDepth 100000 in
set_option maxHeartbeats 4000000 in
theorem lacking_any (B n g : Nat) (V : List Lv) (U : List (List Nat)) (w : World) (h : Fs B w (some ⟨g, 0, none⟩) n n g 0 V) (hU : V.map Lv.l = U.map castL) (hn : n ≤ 1000) (hm : ∀ u, u ∈ U → u.length ≤ 1001 ∧ ∀ k, k ∈ u → k < n) :
    Calls Try.prog 27 #[.slice (some ⟨g, 0, none⟩) n n] w fun e w' => (∃ K, RetI1 w.heap.size w' e n K ∧ Lk U n n 0 K) ∧ Below w.heap.size w w' := by
  have hl : U.length = n := by
    have h1 := fs_len h
    have h2 := congrArg List.length hU
    rw [List.length_map, List.length_map] at h2
    omega
  have hr := run_zeros n (by omega)
  have H := hid (And.intro h (And.intro hU (And.intro hm hl)))
  have hk := oi_news (lo := w.heap.size) (w := w) (Nat.le_refl _) (List.replicate n 0) (by simp; omega) 3
  rw [List.length_replicate] at hk
  have hb := (Below.refl w.heap.size w).alloc (Nat.le_refl _) (.cells (ints (List.replicate n 0)).toArray 3)
  have hsz : w.heap.size < (w.alloc (.cells (ints (List.replicate n 0)).toArray 3)).heap.size := by simp
  clear h hU hm hl
  go_enter Try.func27, Try.ntmps27
  go_wp2
  generalize (w.alloc (.cells (ints (List.replicate n 0)).toArray 3)) = W at *
  generalize hq : w.heap.size = q at *
  have HK := hid (And.intro hk (And.intro hb (And.intro hq hsz)))
  have hS := hid (lk_start U n)
  clear hk hb hr hq hsz
  generalize List.replicate n (0 : Int) = K0 at *
  go_loopg [5, 7, 13] n (fun gk x5 x7 x13 wr => ∃ (w1 : World) (i : Nat) (K : List Int), w1 = wr ∧ i ≤ n ∧ gk = n - i ∧ x13 = .int .i64 i ∧ Below q w w1 ∧ Oi q w1 (some ⟨q, 0, none⟩) n n q 0 K ∧ Lk U n i 0 K ∧ q < w1.heap.size)
  case atStart => exact ⟨_, 0, K0, rfl, Nat.zero_le _, rfl, rfl, HK.out.2.1, HK.out.1, hS.out, HK.out.2.2.2⟩
  case round =>
    obtain ⟨w1, i, K, rfl, hi, rfl, rfl, hB, hO, hL, hz⟩ := hrel
    have hBw : Below w.heap.size w w1 := by rw [HK.out.2.2.1]; exact hB
    have H1 := hid (And.intro hB (And.intro hO (And.intro hL (And.intro hBw hz))))
    clear hB hO hL hBw hS hz
    by_cases hlt : i < n
    · have hltz : (i : Int) < (n : Int) := by omega
      obtain ⟨u, hu⟩ : ∃ u, U[i]? = some u := ⟨_, List.getElem?_eq_getElem (by rw [H.out.2.2.2]; exact hlt)⟩
      obtain ⟨v, hv, hvl⟩ := fs_get (B := 0) (w := w) (ao := none) (n := 0) (c := 0) (g := 0) (off := 0) H.out.2.1 (l := castL u) (by rw [List.getElem?_map, hu]; rfl)
      obtain ⟨-, c0, -, hvo⟩ := fs_at (H.out.1.below H1.out.2.2.2.1) hv
      rw [Nat.zero_add] at c0
      have hvw := (H.out.1.v v (List.mem_of_getElem? hv)).v
      rw [hvl] at hvw
      have hul : u.length = v.n := by have := vi_len hvw; rw [castL_len] at this; exact this
      have hgd : U.getD i [] = u := by rw [List.getD_eq_getElem?_getD, hu]; rfl
      have hmu := H.out.2.2.1 u (List.mem_of_getElem? hu)
      have HE := hid (And.intro hvw (And.intro hul (And.intro hgd hmu)))
      have hvn : v.n ≤ 1001 := by omega
      clear hvw hul hgd hmu hv hvl hvo hu
      generalize v.ao = va at *
      generalize v.n = vn at *
      generalize v.c = vc at *
      generalize v.b = vb at *
      generalize v.off = vo at *
      clear v
      go_wp2
      go_loopg [7, 19] vn (fun gk x7 x19 wr => ∃ (w2 : World) (j : Nat) (K : List Int), w2 = wr ∧ j ≤ vn ∧ gk = vn - j ∧ x19 = .int .i64 j ∧ Below q w w2 ∧ Oi q w2 (some ⟨q, 0, none⟩) n n q 0 K ∧ Lk U n i j K ∧ q < w2.heap.size)
      case atStart => exact ⟨_, 0, K, rfl, Nat.zero_le _, rfl, rfl, H1.out.1, H1.out.2.1, H1.out.2.2.1, H1.out.2.2.2.2⟩
      case round =>
        obtain ⟨w2, j, K, rfl, hj, rfl, rfl, hB, hO, hL, hz⟩ := hrel
        have hBw : Below w.heap.size w w2 := by rw [HK.out.2.2.1]; exact hB
        have H2 := hid (And.intro hB (And.intro hO (And.intro hL (And.intro hBw hz))))
        clear hB hO hL hBw c0 hz
        by_cases hjlt : j < vn
        · have hjlz : (j : Int) < (vn : Int) := by omega
          obtain ⟨k, hk⟩ : ∃ k, u[j]? = some k := ⟨_, List.getElem?_eq_getElem (by rw [HE.out.2.1]; exact hjlt)⟩
          obtain ⟨rfl, e0⟩ := vi_at (HE.out.1.below H2.out.2.2.2.1) (castL_get hk)
          have hkn := HE.out.2.2.2.2 k (List.mem_of_getElem? hk)
          have hkz : (k : Int) < (n : Int) := by omega
          have e1 := oi_nth0 H2.out.2.1 hkn
          have e2 := oi_fz0 H2.out.2.1 hkn
          have hbd : 0 ≤ nth K k ∧ nth K k ≤ 2000000 := by
            rw [H2.out.2.2.1.2 k hkn]
            have h1 := lackP_le (m := 1001) (U := U) (fun u hu => (H.out.2.2.1 u hu).1) i j k (by rw [H.out.2.2.2]; omega) (by omega)
            rw [H.out.2.2.2] at h1
            omega
          obtain ⟨hb0, hb1⟩ := hbd
          have HS := hid (lk_step H2.out.2.2.1 (by rw [HE.out.2.2.1]; exact hk) hkn)
          clear hk
          go_wp2
          go_roundg (vn - (j + 1))
          case measure => omega
          case rel => exact ⟨_, j + 1, _, rfl, hjlt, rfl, by simp, H2.out.1.setCell (p := ⟨q, k, none⟩) (Nat.le_refl _) _, oi_set0 H2.out.2.1 hkn _, HS.out, by rw [World.size_setCell]; exact H2.out.2.2.2.2⟩
        · obtain rfl : j = vn := by omega
          go_wp2
          go_roundg (n - (i + 1))
          case measure => omega
          case rel => exact ⟨_, i + 1, K, rfl, hlt, rfl, by simp, H2.out.1, H2.out.2.1, lk_next (by rw [HE.out.2.2.1, HE.out.2.1]; exact H2.out.2.2.1) (by rw [H.out.2.2.2]; exact hlt), H2.out.2.2.2.2⟩
    · obtain rfl : i = n := by omega
      go_wp2
      go_ret
      exact ⟨⟨K, ⟨_, rfl, by rw [HK.out.2.2.1]; exact H1.out.2.1, by rw [HK.out.2.2.1]; exact Nat.le_refl _, H1.out.2.2.2.2⟩, H1.out.2.2.1⟩, H1.out.2.2.2.1⟩
end Go.Proofs.Ytleclkjinkbebaa
