/- What may come next is put in, and the least one is taken out: contracts. -/
import Derived.Test.YtleclkjinkbebaaHeap
namespace Go.Proofs.Ytleclkjinkbebaa
open Num Go.RowKit
set_option linter.unusedVariables false
set_option linter.unusedSimpArgs false

theorem hb_grow {B k c b c' b' : Nat} {x y z : World} (h : Hb B k c b x y) (hp : Pl c b c' b' x) (h' : Hb B k c' b' y z) : Hb B k c b x z :=
  ⟨h.low.trans h'.low, fun g hg h1 h2 => (h'.fr g (Nat.lt_of_lt_of_le hg h.low.size) h1 (fun hc => by rcases hp hc with ⟨h3, h4⟩ | h3; exact h4 ▸ h2 h3; omega)).trans (h.fr g hg h1 h2)⟩
set_option maxRecDepth 100000 in
set_option maxHeartbeats 1000000 in
theorem hpush_any (B k : Nat) (ao : Option Addr) (n c b off : Nat) (l' : List Int) (v : Int) (w : World) (h : Hp B w k ao n c b off l') (hh : heapN n l') (hB0 : B ≤ w.heap.size) (hn : n ≤ 100000) :
    Calls Try.prog 28 #[.iface 53 (.pointer (some ⟨k, 0, none⟩)), .iface 3 (.int .i64 v)] w fun e w' => e = .returned (.tuple #[]) ∧ (∃ ao2 c2 b2 off2 l2, Hp B w' k ao2 (n + 1) c2 b2 off2 l2 ∧ heapN (n + 1) l2 ∧ l2.Perm (l' ++ [v]) ∧ Pl c b c2 b2 w) ∧ Hb B k c b w w' := by
  have H := hid (And.intro h hh)
  have hz : ((n + 1 : Nat) : Int) - 1 = (n : Int) := by omega
  have hz1 : ((n : Int) + 1) - 1 = (n : Int) := by omega
  have hu := hid (up_start hh (hp_len h) v)
  clear h hh
  go_enter Try.func28, Try.ntmps28
  go_wp2_with (first
    | (go_at_call 60; with_reducible refine Calls.mono (push_any _ _ _ _ _ _ _ _ _ _ H.out.1 ‹_› ‹_›) ?_; rintro e w1 ⟨rfl, ⟨ao2, c2, b2, off2, h2, hpl⟩, hb⟩; have HB := hid hb; have H2 := hid h2; have HP := hid hpl; clear hpl; have m1 := meth_by find_Len H2.out.cell; clear hb h2)
    | (go_at_call 29; with_reducible refine Calls.mono (len_any _ _ _ _ (vz_small H2.out.own.v)) ?_; rintro e w2 ⟨rfl, hw⟩; replace hw := hw.symm; subst hw; clear m1)
    | (go_at_call 39; with_reducible refine Calls.mono (up_any B _ _ _ _ _ _ _ n _ H2.out (Nat.le_trans hB0 HB.out.low.size) (Nat.lt_succ_self n) hu.out) ?_; rintro e w3 ⟨rfl, h3, hb⟩; have H3 := hid h3; have HB3 := hid hb; clear h3 hb))
  go_returns
  obtain ⟨l3, q1, q2, q3⟩ := H3.out
  exact ⟨rfl, ⟨_, _, _, _, l3, q3, q1, q2, HP.out⟩, hb_grow HB.out HP.out HB3.out⟩

theorem pop_parts {n : Nat} {l l2 : List Int} (hh : heapN (n + 1) l) (hl : l.length = n + 1) (h1 : heapN n l2) (h2 : l2.Perm (swapL l 0 n)) (h3 : nth l2 n = nth (swapL l 0 n) n) :
    nth l2 n = nth l 0 ∧ heapN n (l2.take n) ∧ (nth l 0 :: l2.take n).Perm l ∧ ∀ x, x ∈ l → nth l 0 ≤ x := by
  have e : nth l2 n = nth l 0 := by rw [h3, swap_snd (by omega)]
  have hp : l2.Perm l := h2.trans (swap_perm (by omega) (by omega))
  have hl2 : l2.length = n + 1 := by rw [hp.length_eq, hl]
  refine ⟨e, heap_take h1, ?_, fun x hx => ?_⟩
  · rw [← e]
    have : (nth l2 n :: l2.take n).Perm (l2.take n ++ [nth l2 n]) := (List.perm_append_singleton _ _).symm
    rw [take_last hl2] at this
    exact this.trans hp
  · obtain ⟨i, hi, rfl⟩ := List.getElem_of_mem hx
    rw [← nth_elem hi]
    exact heap_least hh i (by omega)

set_option maxRecDepth 100000 in
set_option maxHeartbeats 1000000 in
theorem hpop_any (B k : Nat) (ao : Option Addr) (n c b off : Nat) (l' : List Int) (w : World) (h : Hp B w k ao (n + 1) c b off l') (hh : heapN (n + 1) l') (hB0 : B ≤ w.heap.size) (hn : n ≤ 100000) :
    Calls Try.prog 40 #[.iface 53 (.pointer (some ⟨k, 0, none⟩))] w fun e w' => (∃ m l2, e = .returned (.iface 3 (.int .i64 m)) ∧ Hp B w' k ao n c b off l2 ∧ heapN n l2 ∧ (m :: l2).Perm l' ∧ ∀ x, x ∈ l' → m ≤ x) ∧ Hb B k c b w w' := by
  have H := hid (And.intro h hh)
  have hz : ((n + 1 : Nat) : Int) - 1 = (n : Int) := by omega
  have hz1 : ((n : Int) + 1) - 1 = (n : Int) := by omega
  have m1 := meth_by find_Len h.cell
  have hu := hid (down_start hh)
  clear h hh
  go_enter Try.func40, Try.ntmps40
  go_wp2_with (first
    | (go_at_call 29; with_reducible refine Calls.mono (len_any _ _ _ _ (vz_small H.out.1.own.v)) ?_; rintro e w2 ⟨rfl, hw⟩; replace hw := hw.symm; subst hw; clear m1; have m2 := meth_by find_Swap H.out.1.cell)
    | (go_at_call 61; with_reducible refine Calls.mono (swap_any B _ _ _ b off l' 0 n _ H.out.1.own (Nat.succ_pos n) (Nat.lt_succ_self n)) ?_; rintro e w3 ⟨rfl, ho, hb⟩; have H3 := hid (hp_swap H.out.1 (Nat.succ_pos n) ho hb); clear m2 ho hb)
    | (go_at_call 41; with_reducible refine Calls.mono (down_any B _ _ n _ _ _ _ _ H3.out.1 (Nat.le_trans hB0 H3.out.2.low.size) (Nat.le_trans hn (by decide)) hu.out) ?_; rintro e w4 ⟨⟨x, rfl⟩, h4, hb⟩; obtain ⟨l4, q1, q2, q3, q4⟩ := h4; have H4 := hid (And.intro q1 (And.intro q2 (And.intro q3 q4))); have HB4 := hid hb; clear q1 q2 q3 q4 hb)
    | (go_at_call 59; with_reducible refine Calls.mono (pop_any B _ _ n _ _ _ _ _ H4.out.2.2.2) ?_; rintro e w5 ⟨rfl, h5, hb⟩; have H5 := hid h5; have HB5 := hid hb; clear h5 hb))
  go_ret
  obtain ⟨e1, e2, e3, e4⟩ := pop_parts H.out.2 (hp_len H.out.1) H4.out.1 H4.out.2.1 H4.out.2.2.1
  exact ⟨⟨_, _, by rw [e1]; rfl, H5.out, e2, e3, e4⟩, (H3.out.2.trans HB4.out).trans HB5.out⟩

theorem least_any (B k : Nat) (ao : Option Addr) (n c b off : Nat) (l' : List Int) (w : World) (h : Hp B w k ao (n + 1) c b off l') (hh : heapN (n + 1) l') (hB0 : B ≤ w.heap.size) (hn : n ≤ 100000) :
    Calls Try.prog 30 #[.pointer (some ⟨k, 0, none⟩)] w fun e w' => (∃ m l2, e = .returned (.int .i64 m) ∧ Hp B w' k ao n c b off l2 ∧ heapN n l2 ∧ (m :: l2).Perm l' ∧ ∀ x, x ∈ l' → m ≤ x) ∧ Hb B k c b w w' := by
  have a3 := assert3
  go_enter Try.func30, Try.ntmps30
  go_wp2_with (first
    | (go_at_call 40; with_reducible refine Calls.mono (hpop_any _ _ _ _ _ _ _ _ _ h hh hB0 hn) ?_; rintro e w1 ⟨⟨m, l2, rfl, h1⟩, hb⟩))
  go_ret
  exact ⟨⟨_, _, rfl, h1⟩, hb⟩
end Go.Proofs.Ytleclkjinkbebaa
