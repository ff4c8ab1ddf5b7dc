/- What is held while the order is made: what each node lacks, who may come next, and the order so far. -/
import Derived.Test.YtleclkjinkbebaaLacks
import Derived.Test.YtleclkjinkbebaaPush
namespace Go.Proofs.Ytleclkjinkbebaa
open Num Go.RowKit
set_option linter.unusedVariables false
set_option linter.unusedSimpArgs false

namespace Num
theorem nodup_lenI : ∀ (n : Nat) {L : List Int}, L.Nodup → (∀ i, i ∈ L → 0 ≤ i ∧ i < (n : Int)) → L.length ≤ n
  | 0, L, hn, h => by
    cases L with
    | nil => simp
    | cons a l => have := h a (by simp); omega
  | n + 1, L, hn, h => by
    by_cases hm : (n : Int) ∈ L
    · have h1 := nodup_lenI n (hn.erase (n : Int)) (fun i hi => by
        have h2 := h i (List.mem_of_mem_erase hi)
        have h3 : i ≠ (n : Int) := fun e => by subst e; exact hn.not_mem_erase hi
        omega)
      rw [List.length_erase_of_mem hm] at h1
      omega
    · have := nodup_lenI n hn (fun i hi => by
        have h2 := h i hi
        have h3 : i ≠ (n : Int) := fun e => by subst e; exact hm hi
        omega)
      omega
theorem bag_len {l : List Int} {S : Nat → Prop} (h : Bag l S) {n : Nat} (hs : ∀ k, S k → k < n) : l.length ≤ n :=
  nodup_lenI n h.1 fun i hi => by
    obtain ⟨k, rfl, hk⟩ := (h.2 i).1 hi
    have := hs k hk
    omega
theorem bag_perm {l l' : List Int} {S : Nat → Prop} (h : Bag l S) (hp : l'.Perm l) : Bag l' S := ⟨hp.nodup_iff.2 h.1, fun x => hp.mem_iff.trans (h.2 x)⟩
theorem ka_perm {G : List (List Int)} {L : List Nat} {K H H' : List Int} (h : Ka G L K H) (hp : H'.Perm H) : Ka G L K H' := ⟨h.st, h.len, h.lack, bag_perm h.bag hp⟩
theorem kb_perm {G : List (List Int)} {L : List Nat} {a j : Nat} {K H H' : List Int} (h : Kb G L a j K H) (hp : H'.Perm H) : Kb G L a j K H' := ⟨h.st, h.next, h.len, h.lack, bag_perm h.bag hp⟩
theorem k0_perm {G : List (List Int)} {a : Nat} {K H H' : List Int} (h : K0 G a K H) (hp : H'.Perm H) : K0 G a K H' := ⟨h.len, h.lack, bag_perm h.bag hp⟩
theorem kb_len {G : List (List Int)} {L : List Nat} {a j : Nat} {K H : List Int} (h : Kb G L a j K H) : H.length ≤ G.length := bag_len h.bag fun k hk => hk.1
theorem ka_len {G : List (List Int)} {L : List Nat} {K H : List Int} (h : Ka G L K H) : H.length ≤ G.length := bag_len h.bag fun k hk => hk.1
theorem k0_len {G : List (List Int)} {a : Nat} {K H : List Int} (h : K0 G a K H) : H.length ≤ a := bag_len h.bag fun k hk => hk.1
end Num

theorem heap_far {w : World} {g o b : Nat} {v : Value} (h : b ≠ g) : (w.setCell ⟨g, o, none⟩ v).heap[b]? = w.heap[b]? := Below.heap_setCell _ _ _ _ h
theorem hp_far {B : Nat} {w : World} {k : Nat} {ao : Option Addr} {n c b off : Nat} {l : List Int} (h : Hp B w k ao n c b off l) {g : Nat} (hg : g < B) (o : Nat) (v : Value) : Hp B (w.setCell ⟨g, o, none⟩ v) k ao n c b off l :=
  ⟨cell_else w v (by have := h.low; omega) h.cell, by rw [World.frozen?_setCell]; exact h.fz, h.low, oz_far h.own (fun hc => by have := (h.own.new hc).1; omega) o v, h.off⟩
theorem hp_block {B : Nat} {W w : World} {k : Nat} {ao : Option Addr} {n c b off : Nat} {l : List Int} (h : Hp B W k ao n c b off l) (hz : W.heap.size ≤ w.heap.size) (hk : w.heap[k]? = W.heap[k]?) (hb : 0 < c → w.heap[b]? = W.heap[b]?) : Hp B w k ao n c b off l :=
  ⟨(World.cell?_of_block (a := ⟨k, 0, none⟩) hk).trans h.cell, (World.frozen?_of_block (a := ⟨k, 0, none⟩) hk).trans h.fz, h.low, h.own.block hz hb, h.off⟩

/-- all of it: above block B the places that may come next and the order so far; below it, above T, what each lacks -/
structure Al (T B k gl n : Nat) (w1 : World) (K : List Int) (ao : Option Addr) (m c b off : Nat) (l : List Int) (ao2 : Option Addr) (r c2 b2 o2 : Nat) (M : List Nat) (wr : World) : Prop where
  low : Below T w1 wr
  size : B ≤ wr.heap.size
  kk : Oi T wr (some ⟨gl, 0, none⟩) n n gl 0 K
  glB : gl < B
  glT : T ≤ gl
  hp : Hp B wr k ao m c b off l
  heap : heapN m l
  li : Oi B wr ao2 r c2 b2 o2 (castL M)
  nk : 0 < c2 → b2 ≠ k
  nb : 0 < c2 → 0 < c → b ≠ b2
section
variable {T B k gl n : Nat} {w1 : World} {K : List Int} {ao : Option Addr} {m c b off : Nat} {l : List Int} {ao2 : Option Addr} {r c2 b2 o2 : Nat} {M : List Nat} {wr : World}
theorem Al.TB (h : Al T B k gl n w1 K ao m c b off l ao2 r c2 b2 o2 M wr) : T ≤ B := by have h1 := h.glB; have h2 := h.glT; omega
theorem al_pop (h : Al T B k gl n w1 K ao m c b off l ao2 r c2 b2 o2 M wr) {w' : World} (hb : Hb B k c b wr w') {m' : Nat} {l' : List Int} (hp : Hp B w' k ao m' c b off l') (hh : heapN m' l') :
    Al T B k gl n w1 K ao m' c b off l' ao2 r c2 b2 o2 M w' :=
  ⟨h.low.trans (hb.low.mono h.TB), Nat.le_trans h.size hb.low.size, h.kk.block hb.low.size (fun _ => hb.low.block gl h.glB), h.glB, h.glT, hp, hh, h.li.block hb.low.size (fun hc => hb.fr b2 (h.li.new hc).2 (h.nk hc) (fun hc2 => (h.nb hc hc2).symm)), h.nk, h.nb⟩
theorem al_push (h : Al T B k gl n w1 K ao m c b off l ao2 r c2 b2 o2 M wr) {w' : World} (hb : Hb B k c b wr w') {ao' : Option Addr} {m' c' b' off' : Nat} {l' : List Int} (hp : Hp B w' k ao' m' c' b' off' l') (hh : heapN m' l') (hpl : Pl c b c' b' wr) :
    Al T B k gl n w1 K ao' m' c' b' off' l' ao2 r c2 b2 o2 M w' :=
  ⟨h.low.trans (hb.low.mono h.TB), Nat.le_trans h.size hb.low.size, h.kk.block hb.low.size (fun _ => hb.low.block gl h.glB), h.glB, h.glT, hp, hh, h.li.block hb.low.size (fun hc => hb.fr b2 (h.li.new hc).2 (h.nk hc) (fun hc2 => (h.nb hc hc2).symm)), h.nk,
    fun hc hc' => by
      rcases hpl hc' with ⟨h1, h2⟩ | h1
      · rw [h2]; exact h.nb hc h1
      · have := (h.li.new hc).2; omega⟩
theorem al_less (h : Al T B k gl n w1 K ao m c b off l ao2 r c2 b2 o2 M wr) {i : Nat} (hi : i < n) (v : Int) :
    Al T B k gl n w1 (K.set i v) ao m c b off l ao2 r c2 b2 o2 M (wr.setCell ⟨gl, i, none⟩ (.int .i64 v)) :=
  ⟨h.low.setCell (p := ⟨gl, i, none⟩) h.glT _, by rw [World.size_setCell]; exact h.size, oi_set0 h.kk hi v, h.glB, h.glT, hp_far h.hp h.glB _ _, h.heap, oz_far h.li (fun hc => by have h1 := (h.li.new hc).1; have h2 := h.glB; omega) _ _, h.nk, h.nb⟩
theorem al_app (h : Al T B k gl n w1 K ao m c b off l ao2 r c2 b2 o2 M wr) (a : Nat) {b5 o5 : Nat}
    (hA : App 1 B #[29, 29] 29 (wr.alloc (.cells #[.int .i64 (a : Int)] 3)) ao2 r c2 b2 (ints (castL M)) (.slice (some ⟨wr.heap.size, 0, none⟩) 1 1) 1 (ints [(a : Int)]) b5 o5) :
    Al T B k gl n w1 K ao m c b off l (apA Try.prog #[29, 29] 29 (wr.alloc (.cells #[.int .i64 (a : Int)] 3)) (.slice ao2 r c2) (.slice (some ⟨wr.heap.size, 0, none⟩) 1 1)) (r + 1) (apC Try.prog #[29, 29] 29 (wr.alloc (.cells #[.int .i64 (a : Int)] 3)) (.slice ao2 r c2) (.slice (some ⟨wr.heap.size, 0, none⟩) 1 1)) b5 o5 (M ++ [a])
      (apW Try.prog #[29, 29] 29 (wr.alloc (.cells #[.int .i64 (a : Int)] 3)) (.slice ao2 r c2) (.slice (some ⟨wr.heap.size, 0, none⟩) 1 1)) := by
  have hw := app_wide hA h.size (Nat.le_refl _)
  have hz : (wr.alloc (.cells #[.int .i64 (a : Int)] 3)).heap.size = wr.heap.size + 1 := by simp
  have ha : ∀ g, g < wr.heap.size → (wr.alloc (.cells #[.int .i64 (a : Int)] 3)).heap[g]? = wr.heap[g]? := fun g hg => ((Below.refl wr.heap.size wr).alloc (Nat.le_refl _) (.cells #[.int .i64 (a : Int)] 3)).block g hg
  have hfr : ∀ g, g < wr.heap.size → (0 < c2 → g ≠ b2) → (apW Try.prog #[29, 29] 29 (wr.alloc (.cells #[.int .i64 (a : Int)] 3)) (.slice ao2 r c2) (.slice (some ⟨wr.heap.size, 0, none⟩) 1 1)).heap[g]? = wr.heap[g]? := fun g hg hne => (hA.other g (by omega) hne).trans (ha g hg)
  have hkl : k < wr.heap.size := World.block_lt_of_cell? _ _ h.hp.cell
  refine ⟨h.low.trans (hw.mono h.TB), Nat.le_trans h.size hw.size, h.kk.block hw.size (fun _ => hw.block gl h.glB), h.glB, h.glT, hp_block h.hp hw.size (hfr k hkl (fun hc => (h.nk hc).symm)) (fun hc => hfr b (h.hp.own.new hc).2 (fun hc2 => h.nb hc2 hc)), h.heap, ?_, fun hc => ?_, fun hc hc' => ?_⟩
  · rw [castL_app]; exact oi_app hA.own
  · rcases hA.place hc with ⟨h1, h2⟩ | h1
    · rw [h2]; exact h.nk h1
    · omega
  · rcases hA.place hc with ⟨h1, h2⟩ | h1
    · rw [h2]; exact h.nb h1 hc'
    · have := (h.hp.own.new hc').2; omega
end
theorem hp_new {B : Nat} {w : World} (hB : B ≤ w.heap.size) : Hp B ((w.alloc (.cells #[] 3)).alloc (.cells #[.slice (some ⟨w.heap.size, 0, none⟩) 0 0] 54)) (w.heap.size + 1) (some ⟨w.heap.size, 0, none⟩) 0 0 0 0 [] := by
  have e : (w.alloc (.cells #[] 3)).heap.size = w.heap.size + 1 := by simp
  have h1 := World.cell?_alloc_new (w.alloc (.cells #[] 3)) #[.slice (some ⟨w.heap.size, 0, none⟩) 0 0] 54 0
  have h2 := World.frozen?_alloc_new (w.alloc (.cells #[] 3)) #[.slice (some ⟨w.heap.size, 0, none⟩) 0 0] 54 0
  rw [e] at h1 h2
  exact ⟨h1, h2, by omega, oi_nil _ _ _, fun hc => absurd hc (by omega)⟩
end Go.Proofs.Ytleclkjinkbebaa
