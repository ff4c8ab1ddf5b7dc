/- A list gone through from its end: the iterator's contract. -/
import Derived.RangeFuncNested
import Derived.RangeFuncBound
import Derived.RangeFuncCalls
import Derived.RangeFuncLeaves
import Derived.Shelf.Abstract
import Derived.Shelf.RegionOpen
import Derived.WalkKit
import Derived.OwnWalkIn
import Derived.TacticsInMore
import Derived.LoopNIn
import Derived.LoopIn
import Derived.Test.YtamojciiacmjaaaDoorNdJoin
namespace Go.Proofs.YtamojciiacmjaaaDoor
open Num Go.RowKit Go.Shelf
set_option linter.unusedVariables false
set_option linter.unusedSimpArgs false
attribute [local go_sem] Oper.semAt_some

/-- the list stands, and the variable that has it -/
def Bk {α : Type} (f : α → Nat) (bs ob off on oc : Nat) (o : List α) (w : World) : Prop := w.cell? ⟨bs, 0, none⟩ = some (.slice (some ⟨ob, off, none⟩) on oc) ∧ ∀ (j : Nat) (a : α), o[j]? = some a → w.cell? ⟨ob, off + j, none⟩ = some (.int .i64 (f a : Int))
theorem rev_take {α : Type} {o : List α} {j : Nat} {a : α} (h : o[j]? = some a) : o.reverse.take (o.length - 1 - j) ++ [a] = o.reverse.take (o.length - j) := by
  obtain ⟨hj, rfl⟩ := List.getElem?_eq_some_iff.1 h
  have hk : o.length - 1 - j < o.reverse.length := by rw [List.length_reverse]; omega
  rw [show o.length - j = (o.length - 1 - j) + 1 by omega, List.take_succ_eq_append_getElem hk, List.getElem_reverse]
  congr 3
  omega
theorem rev_all {α : Type} (o : List α) : o.reverse.take o.length = o.reverse := List.take_of_length_le (by rw [List.length_reverse]; exact Nat.le_refl _)

set_option maxRecDepth 100000 in
set_option maxHeartbeats 2000000 in
theorem back_in {α : Type} (f : α → Nat) (F : Fence) (n : Nat) (h7 : F.fn 59) (hro : F.round = none) (hn : 1 ≤ n) (l bs ob off on oc : Nat) (o : List α) (hon : on = o.length) (hmax : on ≤ 1000) (J Jx : List α → World → Prop)
    (hY : ∀ (pre : List α) (x : α) (W : World), J pre W → pre.length < o.length → YieldAt F (n - 1) Tryd.prog l #[.int .i64 (f x : Int)] W fun e W' =>
      (e = .returned (.bool true) ∧ J (pre ++ [x]) W' ∧ (Bk f bs ob off on oc o W → Bk f bs ob off on oc o W')) ∨ (e = .returned (.bool false) ∧ Jx (pre ++ [x]) W'))
    (W : World) (hBk : Bk f bs ob off on oc o W) (h0 : J [] W) :
    CallsIn F n Tryd.prog 59 #[.func (.yield l) #[] #[], .pointer (some ⟨bs, 0, none⟩)] W fun e W' => (∃ v, e = .returned v) ∧
      ((∃ ys, ys = o.reverse ∧ J ys W') ∨ (∃ pre, True ∧ Jx pre W')) := by
  have HBk := hid hBk
  have hc := hBk.1
  refine callsIn_of_wp Tryd.func59 rfl h7 ?_ hro
  simp only [Tryd.ntmps59, List.size_toArray, List.length_cons, List.length_nil, Nat.reduceAdd, Nat.reduceSub, Array.replicate_succ, Array.replicate_zero, List.push_toArray, List.append_toArray, List.nil_append, List.cons_append]
  gi_wp2
  have hs : wrap64 ((on : Int) - 1) = (on : Int) - 1 := IntWalk.wrap64_in _ (by omega)
  try rw [hs]
  clear hs
  gi_loopw [3] (fun i wr => ∃ m : Nat, m ≤ on ∧ i = .int .i64 ((m : Int) - 1) ∧ J (o.reverse.take (on - m)) wr ∧ Bk f bs ob off on oc o wr)
    (fun i _ => (intOf i + 1).toNat)
  case atStart => exact ⟨on, Nat.le_refl _, by first | rfl | rw [hon], by rw [Nat.sub_self]; exact h0, HBk.out⟩
  case round =>
    obtain ⟨m, hm, rfl, hJs, hb⟩ := hrel
    have HB := hid hb
    obtain ⟨hc1, hc2⟩ := hb
    clear hc
    by_cases hm0 : 0 < m
    · obtain ⟨j, rfl⟩ : ∃ j, m = j + 1 := ⟨m - 1, by omega⟩
      have hqz : ((j + 1 : Nat) : Int) - 1 = (j : Int) := by omega
      have hjo : j < o.length := by omega
      obtain ⟨a, ha⟩ : ∃ a, o[j]? = some a := ⟨_, List.getElem?_eq_getElem hjo⟩
      have c0 := hc2 j a ha
      have hjz : (j : Int) < (on : Int) := by omega
      have HT := hid (rev_take ha)
      have hpl : (o.reverse.take (on - (j + 1))).length < o.length := by rw [List.length_take, List.length_reverse]; omega
      rw [hqz]
      obtain ⟨fn, tmps, assign, body, hy, hR⟩ := hY _ a wr hJs hpl
      clear hc2 ha hjo hpl hqz
      gi_wp2
      refine hR.mono ?_
      rintro e W3 (⟨rfl, hJ3, hk3⟩ | ⟨rfl, hJx3⟩)
      · gi_wp2
        go_roundw
        case rel => exact ⟨j, by omega, by simp, by rw [show on - (j + 1) = o.length - 1 - j by omega, HT.out] at hJ3; rw [hon]; exact hJ3, hk3 HB.out⟩
        case measure => simp [intOf] <;> omega
      · gi_wp2
        refine bodyPost_ret (results_none rfl _ _ _) rfl ?_
        exact ⟨⟨_, rfl⟩, .inr ⟨_, trivial, hJx3⟩⟩
    · obtain rfl : m = 0 := by omega
      rw [Nat.sub_zero, hon, rev_all] at hJs
      clear hc2
      gi_wp2
      go_end0
      exact ⟨⟨_, rfl⟩, .inl ⟨_, rfl, hJs⟩⟩
/-- the iterator's contract -/
theorem back_stops {α : Type} (f : α → Nat) (F : Fence) (n : Nat) (h7 : F.fn 59) (hro : F.round = none) (hn : 1 ≤ n) (bs ob off on oc : Nat) (o : List α) (hon : on = o.length) (hmax : on ≤ 1000) (w : World) (hbs : bs < w.heap.size) (hob : ob < w.heap.size) (hB : Bk f bs ob off on oc o w) :
    SeqStopsK F n Tryd.prog 59 #[.pointer (some ⟨bs, 0, none⟩)] (fun x : α => #[Value.int .i64 (f x : Int)]) (fun A B => Bk f bs ob off on oc o A → Bk f bs ob off on oc o B) (fun ys => ys = o.reverse) (fun _ => True) o.length w := fun l J Jx W hW _ _ hY h0 => by
  refine back_in f F n h7 hro hn l bs ob off on oc o hon hmax J Jx hY W ⟨?_, fun j a ha => ?_⟩ h0
  · exact (hW.cell (p := ⟨bs, 0, none⟩) hbs).trans hB.1
  · exact (hW.cell (p := ⟨ob, off + j, none⟩) hob).trans (hB.2 j a ha)
set_option maxHeartbeats 1000000 in
theorem backward_any (ao : Option Addr) (n c : Nat) (w : World) :
    Calls Tryd.prog 35 #[.slice ao n c] w fun e w' => e = .returned (.func (.func 59) #[] #[.pointer (some ⟨w.heap.size, 0, none⟩)]) ∧ w' = w.alloc (.cells #[.slice ao n c] 22) := by
  go_enter Tryd.func35, Tryd.ntmps35
  go_wp2
  go_ret
  first | done | exact ⟨rfl, rfl⟩
end Go.Proofs.YtamojciiacmjaaaDoor
