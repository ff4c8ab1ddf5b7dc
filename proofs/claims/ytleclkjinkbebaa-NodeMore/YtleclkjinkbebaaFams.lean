/- Lists of lists of numbers in memory, each list in a block of its own. -/
import Derived.Test.YtleclkjinkbebaaMarks
namespace Go.Proofs.Ytleclkjinkbebaa
open Num Go.RowKit
set_option linter.unusedVariables false
set_option linter.unusedSimpArgs false

/-- a list: where it lies, and its numbers -/
structure Lv where
  ao : Option Addr
  n : Nat
  c : Nat
  b : Nat
  off : Nat
  l : List Int
def slV (v : Lv) : Value := .slice v.ao v.n v.c
def slL (V : List Lv) : List Value := V.map slV
theorem slL_len (V : List Lv) : (slL V).length = V.length * 1 := by unfold slL; simp
theorem slL_at {V : List Lv} {i : Nat} {v : Lv} (h : V[i]? = some v) : (slL V)[i]? = some (slV v) := by unfold slL; rw [List.getElem?_map, h]; rfl
theorem slL_app (V : List Lv) (v : Lv) : slL (V ++ [v]) = slL V ++ [slV v] := by unfold slL; simp
theorem slL_set (V : List Lv) (i : Nat) (v : Lv) : slL (V.set i v) = (slL V).set i (slV v) := by unfold slL; rw [List.map_set]
theorem one_slL (V : List Lv) : ∀ v ∈ slL V, v.oneCell' = true := by
  intro v hv
  unfold slL at hv
  obtain ⟨r, -, rfl⟩ := List.mem_map.1 hv
  rfl
/-- the lists, of one's own; no two in one block, none in that which holds them -/
structure Fs (B : Nat) (w : World) (ao : Option Addr) (n c g off : Nat) (V : List Lv) : Prop where
  z : Oz 1 B w ao n c g off (slL V)
  v : ∀ v, v ∈ V → Oi B w v.ao v.n v.c v.b v.off v.l
  ne : ∀ v, v ∈ V → 0 < v.c → v.b ≠ g
  apart : ∀ (i j : Nat) (u v : Lv), i ≠ j → V[i]? = some u → V[j]? = some v → 0 < u.c → 0 < v.c → u.b ≠ v.b
theorem Fs.below {B : Nat} {W w : World} {ao : Option Addr} {n c g off : Nat} {V : List Lv} (h : Fs B W ao n c g off V) (hb : Below W.heap.size W w) : Fs B w ao n c g off V := ⟨h.z.below hb, fun v hv => (h.v v hv).below hb, h.ne, h.apart⟩
theorem Fs.mono {B B' : Nat} {W : World} {ao : Option Addr} {n c g off : Nat} {V : List Lv} (h : Fs B W ao n c g off V) (hB : B' ≤ B) : Fs B' W ao n c g off V := ⟨h.z.mono hB, fun v hv => (h.v v hv).mono hB, h.ne, h.apart⟩
theorem fs_len {B : Nat} {w : World} {ao : Option Addr} {n c g off : Nat} {V : List Lv} (h : Fs B w ao n c g off V) : V.length = n := by have := h.z.v.len; rw [slL_len] at this; omega
theorem fs_at {B : Nat} {w : World} {ao : Option Addr} {n c g off : Nat} {V : List Lv} (h : Fs B w ao n c g off V) {i : Nat} {v : Lv} (hi : V[i]? = some v) :
    ao = some ⟨g, off, none⟩ ∧ w.cell? ⟨g, off + i, none⟩ = some (.slice v.ao v.n v.c) ∧ w.frozen? ⟨g, off + i, none⟩ = false ∧ Oi B w v.ao v.n v.c v.b v.off v.l := by
  have hl := fs_len h
  have hlt : i < V.length := (List.getElem?_eq_some_iff.1 hi).1
  exact ⟨h.z.v.addr (by have := h.z.v.le; omega), h.z.v.lies _ _ (slL_at hi), oz_fz h.z (by omega), h.v v (List.mem_of_getElem? hi)⟩
theorem fs_nil (B : Nat) (w : World) (ao : Option Addr) : Fs B w ao 0 0 0 0 [] := ⟨oz_nil 1 B w ao, fun v hv => (by cases hv), fun v hv => (by cases hv), fun i j u v _ h => by simp at h⟩
/-- so many lists that are nothing -/
def nilV : Lv := ⟨none, 0, 0, 0, 0, []⟩
theorem fs_news {B : Nat} {w : World} (hB : B ≤ w.heap.size) (n : Nat) (hn : n ≤ 1000000) : Fs B (w.alloc (.cells (nils n).toArray 29)) (some ⟨w.heap.size, 0, none⟩) n n w.heap.size 0 (List.replicate n nilV) := by
  have e : slL (List.replicate n nilV) = nils n := by unfold slL nils; rw [List.map_replicate]; rfl
  refine ⟨?_, fun v hv => ?_, fun v hv hc => ?_, fun i j u v _ hu hv hc => ?_⟩
  · rw [e]
    exact oz_news hB (nils n) n (by simp [nils]) hn 29
  · obtain ⟨-, rfl⟩ := List.mem_replicate.1 hv
    exact oi_nil _ _ _
  · obtain ⟨-, rfl⟩ := List.mem_replicate.1 hv
    exact absurd hc (by decide)
  · obtain ⟨-, rfl⟩ := List.mem_replicate.1 (List.mem_of_getElem? hu)
    exact absurd hc (by decide)
/-- lists are answered -/
def RetU (B : Nat) (w : World) (e : Ending) (U : List (List Nat)) : Prop := ∃ ao n c g off V, e = .returned (.slice ao n c) ∧ Fs B w ao n c g off V ∧ V.map Lv.l = U.map castL
theorem retU {B : Nat} {w : World} {e : Ending} {U : List (List Nat)} (h : RetU B w e U) : ∃ ao n c g off V, e = .returned (.slice ao n c) ∧ Fs B w ao n c g off V ∧ V.map Lv.l = U.map castL := h

/-- a number that is laid down, to be put behind others -/
theorem app28 {lo : Nat} {w : World} {ao : Option Addr} {n c b off : Nat} {l : List Int} (h : Oi lo w ao n c b off l) (hB : lo ≤ w.heap.size) (hn : n ≤ 100000) (v : Int) :
    ∃ b'' off'', App 1 lo #[29, 29] 29 (w.alloc (.cells #[.int .i64 v] 3)) ao n c b (ints l) (.slice (some ⟨w.heap.size, 0, none⟩) 1 1) 1 (ints [v]) b'' off'' :=
  app_lit Try.underlying29 (h.below ((Below.refl _ _).alloc (Nat.le_refl _) _)) (by simp; omega) hn (lit_new w v)
theorem app28_fine {lo : Nat} {w : World} {ao : Option Addr} {n c b : Nat} {l : List Int} {g : Nat} {v : Int} {b'' off'' : Nat} (h : App 1 lo #[29, 29] 29 w ao n c b (ints l) (.slice (some ⟨g, 0, none⟩) 1 1) 1 (ints [v]) b'' off'') :
    Fine Try.prog #[29, 29] 29 w (.slice ao n c) (.slice (some ⟨g, 0, none⟩) 1 1) (n + 1) := h.fine
theorem lit_slice {w : World} (v : Lv) : Src Try.prog 1 50 (.slice (some ⟨w.heap.size, 0, none⟩) 1 1) 1 [slV v] (w.alloc (.cells #[slV v] 29)) :=
  src_of (oz_news (w := w) (lo := 0) (Nat.zero_le _) [slV v] 1 (by simp) (by decide) 29).v (by decide) Try.underlying50 (one_slL [v])
/-- a list behind lists -/
theorem app32 {lo : Nat} {w : World} {ao : Option Addr} {n c g off : Nat} {V : List Lv} (h : Fs lo w ao n c g off V) (hB : lo ≤ w.heap.size) (hn : n ≤ 100000) (v : Lv) :
    ∃ b'' off'', App 1 lo #[50, 50] 50 (w.alloc (.cells #[slV v] 29)) ao n c g (slL V) (.slice (some ⟨w.heap.size, 0, none⟩) 1 1) 1 [slV v] b'' off'' :=
  app_own (h.z.below ((Below.refl _ _).alloc (Nat.le_refl _) _)) (by simp; omega) 50 50 50 29 _ 24 Try.underlying50 info29 rfl _ 1 [slV v] (lit_slice v) (by simp only [maxLen]; omega) (by omega)
theorem app32_fine {lo : Nat} {w : World} {ao : Option Addr} {n c g : Nat} {V : List Lv} {b0 : Nat} {a : Option Addr} {m k : Nat} {b'' off'' : Nat} (h : App 1 lo #[50, 50] 50 w ao n c g (slL V) (.slice (some ⟨b0, 0, none⟩) 1 1) 1 [.slice a m k] b'' off'') :
    Fine Try.prog #[50, 50] 50 w (.slice ao n c) (.slice (some ⟨b0, 0, none⟩) 1 1) (n + 1) := h.fine
/-- what is owned, and lies in another block, stays -/
theorem oi_app_else {lo sz B : Nat} {ts : Array TypeId} {ty : TypeId} {w : World} {ao : Option Addr} {n c b : Nat} {cs : List Value} {x : Value} {m : Nat} {news : List Value} {b' off' : Nat} (h : App sz B ts ty w ao n c b cs x m news b' off')
    {ao2 : Option Addr} {n2 c2 b2 off2 sz2 : Nat} {l2 : List Value} (h2 : Oz sz2 lo w ao2 n2 c2 b2 off2 l2) (hne : 0 < c2 → 0 < c → b2 ≠ b) : Oz sz2 lo (apW Try.prog ts ty w (.slice ao n c) x) ao2 n2 c2 b2 off2 l2 :=
  h2.block h.below.size fun hc => h.other b2 (h2.new hc).2 (fun hc1 => hne hc hc1)
theorem fs_app {lo : Nat} {w : World} {ao : Option Addr} {n c g off : Nat} {V : List Lv} (h : Fs lo w ao n c g off V) {v : Lv} (hv : Oi lo w v.ao v.n v.c v.b v.off v.l) (hne : 0 < v.c → 0 < c → v.b ≠ g) (hnew : ∀ u, u ∈ V → 0 < u.c → 0 < v.c → u.b ≠ v.b)
    {b'' off'' : Nat} (hA : App 1 lo #[50, 50] 50 (w.alloc (.cells #[slV v] 29)) ao n c g (slL V) (.slice (some ⟨w.heap.size, 0, none⟩) 1 1) 1 [slV v] b'' off'') :
    Fs lo (apW Try.prog #[50, 50] 50 (w.alloc (.cells #[slV v] 29)) (.slice ao n c) (.slice (some ⟨w.heap.size, 0, none⟩) 1 1)) (apA Try.prog #[50, 50] 50 (w.alloc (.cells #[slV v] 29)) (.slice ao n c) (.slice (some ⟨w.heap.size, 0, none⟩) 1 1)) (n + 1)
      (apC Try.prog #[50, 50] 50 (w.alloc (.cells #[slV v] 29)) (.slice ao n c) (.slice (some ⟨w.heap.size, 0, none⟩) 1 1)) b'' off'' (V ++ [v]) := by
  have hb : Below w.heap.size w (w.alloc (.cells #[slV v] 29)) := (Below.refl _ _).alloc (Nat.le_refl _) _
  have hz : (w.alloc (.cells #[slV v] 29)).heap.size = w.heap.size + 1 := by simp
  have key : ∀ u, (u ∈ V ∨ u = v) → Oi lo w u.ao u.n u.c u.b u.off u.l ∧ (0 < u.c → 0 < c → u.b ≠ g) := fun u hu => by
    rcases hu with hu | rfl
    · exact ⟨h.v u hu, fun h1 _ => h.ne u hu h1⟩
    · exact ⟨hv, hne⟩
  have old : c = 0 → 0 < apC Try.prog #[50, 50] 50 (w.alloc (.cells #[slV v] 29)) (.slice ao n c) (.slice (some ⟨w.heap.size, 0, none⟩) 1 1) → w.heap.size + 1 ≤ b'' := fun h0 hc => by
    rcases hA.place hc with h1 | h1
    · omega
    · omega
  refine ⟨?_, fun u hu => ?_, fun u hu hc => ?_, fun i j u u' hij hu hu' hc hc' => ?_⟩
  · rw [slL_app]; exact hA.own
  · have hu' : u ∈ V ∨ u = v := by simpa using hu
    obtain ⟨k1, k2⟩ := key u hu'
    exact oi_app_else hA (k1.below hb) k2
  · have hu' : u ∈ V ∨ u = v := by simpa using hu
    obtain ⟨k1, k2⟩ := key u hu'
    have hlt := (k1.new hc).2
    have hcap : 0 < apC Try.prog #[50, 50] 50 (w.alloc (.cells #[slV v] 29)) (.slice ao n c) (.slice (some ⟨w.heap.size, 0, none⟩) 1 1) := by have := hA.own.v.le; omega
    rcases hA.place hcap with ⟨h1, h2⟩ | h1
    · rw [h2]; exact k2 hc h1
    · omega
  · have hlV : ∀ (i : Nat) (u : Lv), (V ++ [v])[i]? = some u → (V[i]? = some u) ∨ (i = V.length ∧ u = v) := fun i u hu => by
      by_cases hi : i < V.length
      · rw [List.getElem?_append_left hi] at hu; exact Or.inl hu
      · rw [List.getElem?_append_right (by omega)] at hu
        have h1 : i - V.length < 1 := by
          have := (List.getElem?_eq_some_iff.1 hu).1
          simpa using this
        have h2 : i = V.length := by omega
        subst h2
        simp at hu
        exact Or.inr ⟨rfl, hu.symm⟩
    rcases hlV i u hu with h1 | ⟨h1, rfl⟩
    · rcases hlV j u' hu' with h2 | ⟨h2, rfl⟩
      · exact h.apart i j u u' hij h1 h2 hc hc'
      · exact hnew u (List.mem_of_getElem? h1) hc hc'
    · rcases hlV j u' hu' with h2 | ⟨h2, rfl⟩
      · exact (hnew u' (List.mem_of_getElem? h2) hc' hc).symm
      · omega
/-- a list of lists grows by a number -/
theorem fs_grow {lo : Nat} {w : World} {n c g : Nat} {V : List Lv} (h : Fs lo w (some ⟨g, 0, none⟩) n c g 0 V) {i : Nat} {u : Lv} (hi : V[i]? = some u) (x : Int)
    {b'' off'' : Nat} (hA : App 1 lo #[29, 29] 29 (w.alloc (.cells #[.int .i64 x] 3)) u.ao u.n u.c u.b (ints u.l) (.slice (some ⟨w.heap.size, 0, none⟩) 1 1) 1 (ints [x]) b'' off'') :
    (apW Try.prog #[29, 29] 29 (w.alloc (.cells #[.int .i64 x] 3)) (.slice u.ao u.n u.c) (.slice (some ⟨w.heap.size, 0, none⟩) 1 1)).cell? ⟨g, i, none⟩ = some (.slice u.ao u.n u.c) ∧
    (apW Try.prog #[29, 29] 29 (w.alloc (.cells #[.int .i64 x] 3)) (.slice u.ao u.n u.c) (.slice (some ⟨w.heap.size, 0, none⟩) 1 1)).frozen? ⟨g, i, none⟩ = false ∧
    Fs lo ((apW Try.prog #[29, 29] 29 (w.alloc (.cells #[.int .i64 x] 3)) (.slice u.ao u.n u.c) (.slice (some ⟨w.heap.size, 0, none⟩) 1 1)).setCell ⟨g, i, none⟩ (.slice (apA Try.prog #[29, 29] 29 (w.alloc (.cells #[.int .i64 x] 3)) (.slice u.ao u.n u.c) (.slice (some ⟨w.heap.size, 0, none⟩) 1 1)) (u.n + 1) (apC Try.prog #[29, 29] 29 (w.alloc (.cells #[.int .i64 x] 3)) (.slice u.ao u.n u.c) (.slice (some ⟨w.heap.size, 0, none⟩) 1 1)))) (some ⟨g, 0, none⟩) n c g 0
      (V.set i ⟨apA Try.prog #[29, 29] 29 (w.alloc (.cells #[.int .i64 x] 3)) (.slice u.ao u.n u.c) (.slice (some ⟨w.heap.size, 0, none⟩) 1 1), u.n + 1, apC Try.prog #[29, 29] 29 (w.alloc (.cells #[.int .i64 x] 3)) (.slice u.ao u.n u.c) (.slice (some ⟨w.heap.size, 0, none⟩) 1 1), b'', off'', u.l ++ [x]⟩) := by
  have hb : Below w.heap.size w (w.alloc (.cells #[.int .i64 x] 3)) := (Below.refl _ _).alloc (Nat.le_refl _) _
  have hz : (w.alloc (.cells #[.int .i64 x] 3)).heap.size = w.heap.size + 1 := by simp
  have hu := List.mem_of_getElem? hi
  have hil : i < V.length := (List.getElem?_eq_some_iff.1 hi).1
  have hn := fs_len h
  have hne := h.ne u hu
  have hcg : 0 < c := by have := h.z.v.le; omega
  have hgl := (h.z.new hcg).2
  obtain ⟨-, c0, f0, -⟩ := fs_at h hi
  rw [Nat.zero_add] at c0 f0
  obtain ⟨d0, d1⟩ := hA.cell (k := g) (by omega) (fun hc => (hne hc).symm) i
  rw [cell_below hb c0] at d0
  rw [(hb.frozen (p := ⟨g, i, none⟩) hgl).trans f0] at d1
  refine ⟨d0, d1, ?_⟩
  have hZ : Oz 1 lo (apW Try.prog #[29, 29] 29 (w.alloc (.cells #[.int .i64 x] 3)) (.slice u.ao u.n u.c) (.slice (some ⟨w.heap.size, 0, none⟩) 1 1)) (some ⟨g, 0, none⟩) n c g 0 (slL V) := oi_app_else hA (h.z.below hb) (fun _ hc => (hne hc).symm)
  have hO := hA.own
  have hpl := hA.place
  have hoth : ∀ v, v ∈ V → (0 < v.c → 0 < u.c → v.b ≠ u.b) → Oi lo (apW Try.prog #[29, 29] 29 (w.alloc (.cells #[.int .i64 x] 3)) (.slice u.ao u.n u.c) (.slice (some ⟨w.heap.size, 0, none⟩) 1 1)) v.ao v.n v.c v.b v.off v.l := fun v hv hne => oi_app_else hA ((h.v v hv).below hb) hne
  generalize apW Try.prog #[29, 29] 29 (w.alloc (.cells #[.int .i64 x] 3)) (.slice u.ao u.n u.c) (.slice (some ⟨w.heap.size, 0, none⟩) 1 1) = W2 at *
  generalize apA Try.prog #[29, 29] 29 (w.alloc (.cells #[.int .i64 x] 3)) (.slice u.ao u.n u.c) (.slice (some ⟨w.heap.size, 0, none⟩) 1 1) = a2 at *
  generalize apC Try.prog #[29, 29] 29 (w.alloc (.cells #[.int .i64 x] 3)) (.slice u.ao u.n u.c) (.slice (some ⟨w.heap.size, 0, none⟩) 1 1) = c2 at *
  have hbg : 0 < c2 → b'' ≠ g := fun hc => by
    rcases hpl hc with ⟨h1, h2⟩ | h1
    · rw [h2]; exact hne h1
    · omega
  have hbv : ∀ (j : Nat) (v : Lv), j ≠ i → V[j]? = some v → 0 < v.c → 0 < c2 → v.b ≠ b'' := fun j v hj hv hc hc2 => by
    rcases hpl hc2 with ⟨h1, h2⟩ | h1
    · rw [h2]; exact h.apart j i v u hj hv hi hc h1
    · have := ((h.v v (List.mem_of_getElem? hv)).new hc).2
      omega
  have hget : ∀ (j : Nat) (v : Lv), (V.set i ⟨a2, u.n + 1, c2, b'', off'', u.l ++ [x]⟩)[j]? = some v → (j ≠ i ∧ V[j]? = some v) ∨ (j = i ∧ v = ⟨a2, u.n + 1, c2, b'', off'', u.l ++ [x]⟩) := fun j v hv => by
    by_cases e : j = i
    · subst e
      rw [List.getElem?_set_self hil] at hv
      exact Or.inr ⟨rfl, (Option.some.inj hv).symm⟩
    · rw [List.getElem?_set_ne (Ne.symm e)] at hv
      exact Or.inl ⟨e, hv⟩
  refine ⟨?_, fun v hv => ?_, fun v hv hc => ?_, fun j k v v' hjk hv hv' hc hc' => ?_⟩
  · rw [slL_set]
    have := oz_set hZ (p := i) (by rw [slL_len]; omega) (.slice a2 (u.n + 1) c2)
    rw [Nat.zero_add] at this
    exact this
  · obtain ⟨j, hj, rfl⟩ := List.getElem_of_mem hv
    rcases hget j _ (List.getElem?_eq_getElem hj) with ⟨h1, h2⟩ | ⟨h1, h2⟩
    · exact oz_far (hoth _ (List.mem_of_getElem? h2) (fun hc hc2 => h.apart j i _ u h1 h2 hi hc hc2)) (h.ne _ (List.mem_of_getElem? h2)) _ _
    · rw [h2]
      exact oz_far (oi_app hO) hbg _ _
  · obtain ⟨j, hj, rfl⟩ := List.getElem_of_mem hv
    rcases hget j _ (List.getElem?_eq_getElem hj) with ⟨h1, h2⟩ | ⟨h1, h2⟩
    · exact h.ne _ (List.mem_of_getElem? h2) hc
    · rw [h2] at hc ⊢
      exact hbg hc
  · rcases hget j v hv with ⟨h1, h2⟩ | ⟨h1, h2⟩
    · rcases hget k v' hv' with ⟨h3, h4⟩ | ⟨h3, h4⟩
      · exact h.apart j k v v' hjk h2 h4 hc hc'
      · subst h4
        exact hbv j v h1 h2 hc hc'
    · rcases hget k v' hv' with ⟨h3, h4⟩ | ⟨h3, h4⟩
      · subst h2
        exact (hbv k v' h3 h4 hc' hc).symm
      · omega
end Go.Proofs.Ytleclkjinkbebaa
