/- Which nodes are needed, by the code: what is held, and the inner function. -/
import Derived.Test.YtccbgekijnkhpaaRefAll
namespace Go.Proofs.Ytccbgekijnkhpaa
open Num Go.RowKit
set_option linter.unusedVariables false
set_option linter.unusedSimpArgs false
attribute [local go_sem ↓] run_app
attribute [local go_sem] lenV_slice

namespace Num
/-- what need does to the marks and to those that wait -/
def Nx (n : Nat) (D : List Bool) (T : List Nat) (x : Int) (D' : List Bool) (T' : List Nat) : Prop :=
  (D' = D ∧ T' = T ∧ ∀ k : Nat, x = (k : Int) → k < n → bt D k = true) ∨ ∃ k : Nat, x = (k : Int) ∧ k < n ∧ bt D k = false ∧ D' = D.set k true ∧ T' = T ++ [k]
theorem nx_mono {n : Nat} {D D' : List Bool} {T T' : List Nat} {x : Int} (h : Nx n D T x D' T') {k : Nat} (hk : bt D k = true) : bt D' k = true := by
  rcases h with ⟨rfl, -, -⟩ | ⟨j, -, -, -, rfl, -⟩
  · exact hk
  · exact bt_mono hk
theorem nx_mark {n : Nat} {D D' : List Bool} {T T' : List Nat} {x : Int} (h : Nx n D T x D' T') (hl : D.length = n) (k : Nat) (hx : x = (k : Int)) (hk : k < n) : bt D' k = true := by
  rcases h with ⟨rfl, -, h1⟩ | ⟨j, h1, h2, -, rfl, -⟩
  · exact h1 k hx hk
  · obtain rfl : j = k := by omega
    exact bt_set_eq (by omega) true
theorem nx_cnt {n : Nat} {D D' : List Bool} {T T' : List Nat} {x : Int} (h : Nx n D T x D' T') (hl : D.length = n) : cntF D' + T'.length = cntF D + T.length := by
  rcases h with ⟨rfl, rfl, -⟩ | ⟨j, -, h2, h3, rfl, rfl⟩
  · rfl
  · have := cntF_set (D := D) (i := j) (by omega) h3
    rw [List.length_append, List.length_singleton]
    omega
theorem nx_na {G : List (List Int)} {out : Int} {z : Nat → Prop} {n : Nat} {D D' : List Bool} {T T' : List Nat} {x : Int} (hn : G.length = n) (h : Na G out z D T) (hx : Nx n D T x D' T') (hr : ∀ k : Nat, x = (k : Int) → k < n → Rch G out k) : Na G out z D' T' := by
  subst hn
  rcases hx with ⟨rfl, rfl, -⟩ | ⟨j, h1, h2, -, rfl, rfl⟩
  · exact h
  · exact na_mark h h2 (hr j h1 h2)
end Num

/-- the filter in block k, the marks in g and where they lie in kn, those that wait where kt says, above B -/
structure Nt (w : World) (B k g kn kt : Nat) (ao : Option Addr) (n c : Nat) (out : Int) (D : List Bool) (ao2 : Option Addr) (r c2 b2 o2 : Nat) (T : List Nat) (wr : World) : Prop where
  m : Mk w k g ao n c out D wr
  cn : wr.cell? ⟨kn, 0, none⟩ = some (.slice (some ⟨g, 0, none⟩) n n)
  ct : wr.cell? ⟨kt, 0, none⟩ = some (.slice ao2 r c2)
  fz : wr.frozen? ⟨kt, 0, none⟩ = false
  li : Oi B wr ao2 r c2 b2 o2 (castL T)
  size : B ≤ wr.heap.size
  lt : k < B ∧ g < B ∧ kn < B ∧ kt < B
  ne : kn ≠ g ∧ kt ≠ g ∧ kn ≠ kt ∧ k ≠ kt
  hkt : w.heap.size ≤ kt
theorem Nt.below {w : World} {B k g kn kt : Nat} {ao : Option Addr} {n c : Nat} {out : Int} {D : List Bool} {ao2 : Option Addr} {r c2 b2 o2 : Nat} {T : List Nat} {wr w' : World} (h : Nt w B k g kn kt ao n c out D ao2 r c2 b2 o2 T wr) (hb : Below wr.heap.size wr w') : Nt w B k g kn kt ao n c out D ao2 r c2 b2 o2 T w' :=
  ⟨h.m.below hb, cell_below hb h.cn, cell_below hb h.ct, (hb.frozen (p := ⟨kt, 0, none⟩) (by have := h.lt.2.2.2; have := h.size; show kt < wr.heap.size; omega)).trans h.fz, h.li.below hb, Nat.le_trans h.size hb.size, h.lt, h.ne, h.hkt⟩
/-- a mark is set -/
theorem nt_mark {w : World} {B k g kn kt : Nat} {ao : Option Addr} {n c : Nat} {out : Int} {D : List Bool} {ao2 : Option Addr} {r c2 b2 o2 : Nat} {T : List Nat} {wr : World} (h : Nt w B k g kn kt ao n c out D ao2 r c2 b2 o2 T wr) {i : Nat} (hi : i < n) (v : Bool) : Nt w B k g kn kt ao n c out (D.set i v) ao2 r c2 b2 o2 T (wr.setCell ⟨g, i, none⟩ (.bool v)) :=
  ⟨mk_set h.m hi v, cell_else wr _ h.ne.1 h.cn, cell_else wr _ h.ne.2.1 h.ct, by rw [World.frozen?_setCell]; exact h.fz, oz_far h.li (fun hc => by have h1 := (h.li.new hc).1; have h2 := h.lt.2.1; omega) _ _, by rw [World.size_setCell]; exact h.size, h.lt, h.ne, h.hkt⟩
/-- what waits is cut or grown: written where kt says -/
theorem nt_list {w : World} {B k g kn kt : Nat} {ao : Option Addr} {n c : Nat} {out : Int} {D : List Bool} {ao2 : Option Addr} {r c2 b2 o2 : Nat} {T : List Nat} {wr w' : World} (h : Nt w B k g kn kt ao n c out D ao2 r c2 b2 o2 T wr) (hb : Below B wr w') {ao3 : Option Addr} {r3 c3 b3 o3 : Nat} {T3 : List Nat} (hl : Oi B w' ao3 r3 c3 b3 o3 (castL T3)) :
    w'.cell? ⟨kt, 0, none⟩ = some (.slice ao2 r c2) ∧ w'.frozen? ⟨kt, 0, none⟩ = false ∧ Nt w B k g kn kt ao n c out D ao3 r3 c3 b3 o3 T3 (w'.setCell ⟨kt, 0, none⟩ (.slice ao3 r3 c3)) := by
  obtain ⟨l1, l2, l3, l4⟩ := h.lt
  obtain ⟨n1, n2, n3, n4⟩ := h.ne
  have hs := h.size
  have e : ∀ q o, q < B → w'.cell? ⟨q, o, none⟩ = wr.cell? ⟨q, o, none⟩ := fun q o hq => World.cell?_of_block (a := ⟨q, o, none⟩) (hb.block q hq)
  have ct : w'.cell? ⟨kt, 0, none⟩ = some (.slice ao2 r c2) := (e kt 0 l4).trans h.ct
  have fz : w'.frozen? ⟨kt, 0, none⟩ = false := (World.frozen?_of_block (a := ⟨kt, 0, none⟩) (hb.block kt l4)).trans h.fz
  have hkB : w.heap.size ≤ B := by have := h.hkt; omega
  refine ⟨ct, fz, ⟨?_, cell_else w' _ n3 ((e kn 0 l3).trans h.cn), World.cell?_setCell_same _ _ _ ct, by rw [World.frozen?_setCell]; exact fz, oz_far hl (fun hc => by have h1 := (hl.new hc).1; omega) _ _, by rw [World.size_setCell]; exact Nat.le_trans hs hb.size, h.lt, h.ne, h.hkt⟩⟩
  exact ⟨(h.m.low.trans (hb.mono hkB)).setCell (p := ⟨kt, 0, none⟩) h.hkt _, ⟨cell_else w' _ n4 ((e k 0 l1).trans h.m.bx.c0), cell_else w' _ n4 ((e k 1 l1).trans h.m.bx.c1)⟩, h.m.hk, oz_far (h.m.d.block hb.size (fun _ => hb.block g l2)) (fun _ => n2.symm) _ _, h.m.ne, h.m.hg⟩

set_option maxRecDepth 100000 in
set_option maxHeartbeats 2000000 in
theorem need_any (w : World) (B k g kn kt : Nat) (ao : Option Addr) (n c : Nat) (out : Int) (D : List Bool) (ao2 : Option Addr) (r c2 b2 o2 : Nat) (T : List Nat) (x : Int) (wr : World) (h : Nt w B k g kn kt ao n c out D ao2 r c2 b2 o2 T wr) (hn : n ≤ 1000) (hr : r ≤ 2000) :
    Calls Try.prog 26 #[.int .i64 x, .pointer (some ⟨k, 0, none⟩), .pointer (some ⟨kn, 0, none⟩), .pointer (some ⟨kt, 0, none⟩)] wr fun e w' => e = .returned (.tuple #[]) ∧ ∃ D' T' ao3 r3 c3 b3 o3, Nt w B k g kn kt ao n c out D' ao3 r3 c3 b3 o3 T' w' ∧ Nx n D T x D' T' := by
  have H := hid h
  obtain ⟨c0, c1⟩ := h.m.bx
  have cn := h.cn
  have ct := h.ct
  have fz := h.fz
  clear h
  rcases hp : plc n x with _ | _
  · have HP := hid hp
    have HN : Hid (∀ k : Nat, x = (k : Int) → k < n → bt D k = true) := hid fun k e hk => by
      unfold plc at hp
      rw [decide_eq_false_iff_not] at hp
      exact absurd ⟨by omega, by omega⟩ hp
    clear hp
    go_enter Try.func26, Try.ntmps26
    go_wp2_with (first
      | (go_at_call 27; with_reducible refine Calls.mono (has27_any _ _ _ _ _ _ ‹_›) ?_; rintro e w4 ⟨rfl, hb⟩; have HB4 := hid hb; clear hb; rw [HP.out]))
    go_returns
    exact ⟨rfl, D, T, _, _, _, _, _, H.out.below HB4.out, Or.inl ⟨rfl, rfl, HN.out⟩⟩
  · obtain ⟨i, rfl⟩ : ∃ i : Nat, x = (i : Int) := ⟨x.toNat, by unfold plc at hp; simp at hp; omega⟩
    have hi : i < n := by unfold plc at hp; simp at hp; exact hp
    have hiz : (i : Int) < (n : Int) := by omega
    have HP := hid hp
    clear hp
    rcases hb : bt D i with _ | _
    · have HD := hid hb
      clear hb
      go_enter Try.func26, Try.ntmps26
      go_wp2_with (first
        | (go_at_call 27; with_reducible refine Calls.mono (has27_any _ _ _ _ _ _ ‹_›) ?_; rintro e w4 ⟨rfl, hb⟩; have H4 := hid (H.out.below hb); clear hb c0 c1 cn ct fz; rw [HP.out]; have cn := H4.out.cn; have e0 := ot_bt0 H4.out.m.d hi; have f0 := ot_fz0 H4.out.m.d hi; rw [HD.out] at e0; have H5 := hid (nt_mark H4.out hi true); have ct := H5.out.ct; obtain ⟨b5, o5, hA⟩ := app28 H5.out.li H5.out.size (Nat.le_trans hr (by decide)) (i : Int); rw [World.size_setCell] at hA; have hF := app28_fine hA; obtain ⟨t0, t1, ht⟩ := nt_list (T3 := T ++ [i]) H5.out (app_wide hA H5.out.size (Nat.le_refl _)) (by rw [castL_app]; exact oi_app hA.own); have H6 := hid ht; clear hA ht))
      go_returns
      exact ⟨rfl, D.set i true, T ++ [i], _, _, _, _, _, H6.out, Or.inr ⟨i, rfl, hi, HD.out, rfl, rfl⟩⟩
    · have HD := hid hb
      clear hb
      go_enter Try.func26, Try.ntmps26
      go_wp2_with (first
        | (go_at_call 27; with_reducible refine Calls.mono (has27_any _ _ _ _ _ _ ‹_›) ?_; rintro e w4 ⟨rfl, hb⟩; have H4 := hid (H.out.below hb); clear hb c0 c1 cn ct fz; rw [HP.out]; have cn := H4.out.cn; have e0 := ot_bt0 H4.out.m.d hi; rw [HD.out] at e0))
      go_returns
      refine ⟨rfl, D, T, _, _, _, _, _, H4.out, Or.inl ⟨rfl, rfl, fun k e hk => ?_⟩⟩
      obtain rfl : i = k := by omega
      exact HD.out
end Go.Proofs.Ytccbgekijnkhpaa
