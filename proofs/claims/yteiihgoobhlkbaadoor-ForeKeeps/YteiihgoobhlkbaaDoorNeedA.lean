import Derived.Test.YteiihgoobhlkbaaDoorHeapA
import Derived.Test.YteiihgoobhlkbaaDoorPlainA
import Derived.Test.YteiihgoobhlkbaaDoorFamA
/- Which nodes are needed, by the code: what is held, and the inner function. -/
namespace Go.Proofs.YteiihgoobhlkbaaDoor
open Num Go.RowKit
set_option linter.unusedVariables false
set_option linter.unusedSimpArgs false
attribute [local go_sem ↓] run_app
attribute [local go_sem] lenV_slice

namespace Num
/-- what need does to the marks and to those that wait -/
def Nx (n : Nat) (D : List Bool) (T : List Nat) (x : Int) (D' : List Bool) (T' : List Nat) : Prop :=
  (D' = D ∧ T' = T ∧ ∀ k : Nat, x = (k : Int) → k < n → bt D k = true) ∨ ∃ k : Nat, x = (k : Int) ∧ k < n ∧ bt D k = false ∧ D' = D.set k true ∧ T' = T ++ [k]
theorem nx_mono {n : Nat} {D D' : List Bool} {T T' : List Nat} {x : Int} (h : Nx n D T x D' T') {k : Nat} (hk : bt D k = true) : bt D' k = true := by
  rcases h with ⟨rfl, -, -⟩ | ⟨j, -, -, -, rfl, -⟩
  · exact hk
  · exact bt_mono hk
theorem nx_mark {n : Nat} {D D' : List Bool} {T T' : List Nat} {x : Int} (h : Nx n D T x D' T') (hl : D.length = n) (k : Nat) (hx : x = (k : Int)) (hk : k < n) : bt D' k = true := by
  rcases h with ⟨rfl, -, h1⟩ | ⟨j, h1, h2, -, rfl, -⟩
  · exact h1 k hx hk
  · obtain rfl : j = k := by omega
    exact bt_set_eq (by omega) true
theorem nx_cnt {n : Nat} {D D' : List Bool} {T T' : List Nat} {x : Int} (h : Nx n D T x D' T') (hl : D.length = n) : cntF D' + T'.length = cntF D + T.length := by
  rcases h with ⟨rfl, rfl, -⟩ | ⟨j, -, h2, h3, rfl, rfl⟩
  · rfl
  · have := cntF_set (D := D) (i := j) (by omega) h3
    rw [List.length_append, List.length_singleton]
    omega
theorem nx_na {G : List (List Int)} {out : Int} {z : Nat → Prop} {n : Nat} {D D' : List Bool} {T T' : List Nat} {x : Int} (hn : G.length = n) (h : Na G out z D T) (hx : Nx n D T x D' T') (hr : ∀ k : Nat, x = (k : Int) → k < n → Rch G out k) : Na G out z D' T' := by
  subst hn
  rcases hx with ⟨rfl, rfl, -⟩ | ⟨j, h1, h2, -, rfl, rfl⟩
  · exact h
  · exact na_mark h h2 (hr j h1 h2)
end Num

/-- the filter in block k, the marks in g and where they lie in kn, those that wait where kt says, above B -/
structure Nt (w : World) (B k g kn kt : Nat) (ao : Option Addr) (n c : Nat) (out : Int) (D : List Bool) (ao2 : Option Addr) (r c2 b2 o2 : Nat) (T : List Nat) (wr : World) : Prop where
  m : Mk w k g ao n c out D wr
  cn : wr.cell? ⟨kn, 0, none⟩ = some (.slice (some ⟨g, 0, none⟩) n n)
  ct : wr.cell? ⟨kt, 0, none⟩ = some (.slice ao2 r c2)
  fz : wr.frozen? ⟨kt, 0, none⟩ = false
  li : Oi B wr ao2 r c2 b2 o2 (castL T)
  size : B ≤ wr.heap.size
  lt : k < B ∧ g < B ∧ kn < B ∧ kt < B
  ne : kn ≠ g ∧ kt ≠ g ∧ kn ≠ kt ∧ k ≠ kt
  hkt : w.heap.size ≤ kt
theorem Nt.below {w : World} {B k g kn kt : Nat} {ao : Option Addr} {n c : Nat} {out : Int} {D : List Bool} {ao2 : Option Addr} {r c2 b2 o2 : Nat} {T : List Nat} {wr w' : World} (h : Nt w B k g kn kt ao n c out D ao2 r c2 b2 o2 T wr) (hb : Below wr.heap.size wr w') : Nt w B k g kn kt ao n c out D ao2 r c2 b2 o2 T w' :=
  ⟨h.m.below hb, cell_below hb h.cn, cell_below hb h.ct, (hb.frozen (p := ⟨kt, 0, none⟩) (by have := h.lt.2.2.2; have := h.size; show kt < wr.heap.size; omega)).trans h.fz, h.li.below hb, Nat.le_trans h.size hb.size, h.lt, h.ne, h.hkt⟩
/-- a mark is set -/
theorem nt_mark {w : World} {B k g kn kt : Nat} {ao : Option Addr} {n c : Nat} {out : Int} {D : List Bool} {ao2 : Option Addr} {r c2 b2 o2 : Nat} {T : List Nat} {wr : World} (h : Nt w B k g kn kt ao n c out D ao2 r c2 b2 o2 T wr) {i : Nat} (hi : i < n) (v : Bool) : Nt w B k g kn kt ao n c out (D.set i v) ao2 r c2 b2 o2 T (wr.setCell ⟨g, i, none⟩ (.bool v)) :=
  ⟨mk_set h.m hi v, cell_else wr _ h.ne.1 h.cn, cell_else wr _ h.ne.2.1 h.ct, by rw [World.frozen?_setCell]; exact h.fz, oz_far h.li (fun hc => by have h1 := (h.li.new hc).1; have h2 := h.lt.2.1; omega) _ _, by rw [World.size_setCell]; exact h.size, h.lt, h.ne, h.hkt⟩
/-- what waits is cut or grown: written where kt says -/
theorem nt_list {w : World} {B k g kn kt : Nat} {ao : Option Addr} {n c : Nat} {out : Int} {D : List Bool} {ao2 : Option Addr} {r c2 b2 o2 : Nat} {T : List Nat} {wr w' : World} (h : Nt w B k g kn kt ao n c out D ao2 r c2 b2 o2 T wr) (hb : Below B wr w') {ao3 : Option Addr} {r3 c3 b3 o3 : Nat} {T3 : List Nat} (hl : Oi B w' ao3 r3 c3 b3 o3 (castL T3)) :
    w'.cell? ⟨kt, 0, none⟩ = some (.slice ao2 r c2) ∧ w'.frozen? ⟨kt, 0, none⟩ = false ∧ Nt w B k g kn kt ao n c out D ao3 r3 c3 b3 o3 T3 (w'.setCell ⟨kt, 0, none⟩ (.slice ao3 r3 c3)) := by
  obtain ⟨l1, l2, l3, l4⟩ := h.lt
  obtain ⟨n1, n2, n3, n4⟩ := h.ne
  have hs := h.size
  have e : ∀ q o, q < B → w'.cell? ⟨q, o, none⟩ = wr.cell? ⟨q, o, none⟩ := fun q o hq => World.cell?_of_block (a := ⟨q, o, none⟩) (hb.block q hq)
  have ct : w'.cell? ⟨kt, 0, none⟩ = some (.slice ao2 r c2) := (e kt 0 l4).trans h.ct
  have fz : w'.frozen? ⟨kt, 0, none⟩ = false := (World.frozen?_of_block (a := ⟨kt, 0, none⟩) (hb.block kt l4)).trans h.fz
  have hkB : w.heap.size ≤ B := by have := h.hkt; omega
  refine ⟨ct, fz, ⟨?_, cell_else w' _ n3 ((e kn 0 l3).trans h.cn), World.cell?_setCell_same _ _ _ ct, by rw [World.frozen?_setCell]; exact fz, oz_far hl (fun hc => by have h1 := (hl.new hc).1; omega) _ _, by rw [World.size_setCell]; exact Nat.le_trans hs hb.size, h.lt, h.ne, h.hkt⟩⟩
  exact ⟨(h.m.low.trans (hb.mono hkB)).setCell (p := ⟨kt, 0, none⟩) h.hkt _, ⟨cell_else w' _ n4 ((e k 0 l1).trans h.m.bx.c0), cell_else w' _ n4 ((e k 1 l1).trans h.m.bx.c1)⟩, h.m.hk, oz_far (h.m.d.block hb.size (fun _ => hb.block g l2)) (fun _ => n2.symm) _ _, h.m.ne, h.m.hg⟩

set_option maxRecDepth 100000 in
set_option maxHeartbeats 2000000 in
theorem need_any (w : World) (B k g kn kt : Nat) (ao : Option Addr) (n c : Nat) (out : Int) (D : List Bool) (ao2 : Option Addr) (r c2 b2 o2 : Nat) (T : List Nat) (x : Int) (wr : World) (h : Nt w B k g kn kt ao n c out D ao2 r c2 b2 o2 T wr) (hn : n ≤ 1000) (hr : r ≤ 2000) :
    Calls Tryd.prog 55 #[.int .i64 x, .pointer (some ⟨k, 0, none⟩), .pointer (some ⟨kn, 0, none⟩), .pointer (some ⟨kt, 0, none⟩)] wr fun e w' => e = .returned (.tuple #[]) ∧ ∃ D' T' ao3 r3 c3 b3 o3, Nt w B k g kn kt ao n c out D' ao3 r3 c3 b3 o3 T' w' ∧ Nx n D T x D' T' := by
  have H := hid h
  obtain ⟨c0, c1⟩ := h.m.bx
  have cn := h.cn
  have ct := h.ct
  have fz := h.fz
  clear h
  rcases hp : plc n x with _ | _
  · have HP := hid hp
    have HN : Hid (∀ k : Nat, x = (k : Int) → k < n → bt D k = true) := hid fun k e hk => by
      unfold plc at hp
      rw [decide_eq_false_iff_not] at hp
      exact absurd ⟨by omega, by omega⟩ hp
    clear hp
    go_enter Tryd.func55, Tryd.ntmps55
    go_wp2_with (first
      | (go_at_call 56; with_reducible refine Calls.mono (has27_any _ _ _ _ _ _ ‹_›) ?_; rintro e w4 ⟨rfl, hb⟩; have HB4 := hid hb; clear hb; rw [HP.out]))
    go_returns
    exact ⟨rfl, D, T, _, _, _, _, _, H.out.below HB4.out, Or.inl ⟨rfl, rfl, HN.out⟩⟩
  · obtain ⟨i, rfl⟩ : ∃ i : Nat, x = (i : Int) := ⟨x.toNat, by unfold plc at hp; simp at hp; omega⟩
    have hi : i < n := by unfold plc at hp; simp at hp; exact hp
    have hiz : (i : Int) < (n : Int) := by omega
    have HP := hid hp
    clear hp
    rcases hb : bt D i with _ | _
    · have HD := hid hb
      clear hb
      go_enter Tryd.func55, Tryd.ntmps55
      go_wp2_with (first
        | (go_at_call 56; with_reducible refine Calls.mono (has27_any _ _ _ _ _ _ ‹_›) ?_; rintro e w4 ⟨rfl, hb⟩; have H4 := hid (H.out.below hb); clear hb c0 c1 cn ct fz; rw [HP.out]; have cn := H4.out.cn; have e0 := ot_bt0 H4.out.m.d hi; have f0 := ot_fz0 H4.out.m.d hi; rw [HD.out] at e0; have H5 := hid (nt_mark H4.out hi true); have ct := H5.out.ct; obtain ⟨b5, o5, hA⟩ := app28 H5.out.li H5.out.size (Nat.le_trans hr (by decide)) (i : Int); rw [World.size_setCell] at hA; have hF := app28_fine hA; obtain ⟨t0, t1, ht⟩ := nt_list (T3 := T ++ [i]) H5.out (app_wide hA H5.out.size (Nat.le_refl _)) (by rw [castL_app]; exact oi_app hA.own); have H6 := hid ht; clear hA ht))
      go_returns
      exact ⟨rfl, D.set i true, T ++ [i], _, _, _, _, _, H6.out, Or.inr ⟨i, rfl, hi, HD.out, rfl, rfl⟩⟩
    · have HD := hid hb
      clear hb
      go_enter Tryd.func55, Tryd.ntmps55
      go_wp2_with (first
        | (go_at_call 56; with_reducible refine Calls.mono (has27_any _ _ _ _ _ _ ‹_›) ?_; rintro e w4 ⟨rfl, hb⟩; have H4 := hid (H.out.below hb); clear hb c0 c1 cn ct fz; rw [HP.out]; have cn := H4.out.cn; have e0 := ot_bt0 H4.out.m.d hi; rw [HD.out] at e0))
      go_returns
      refine ⟨rfl, D, T, _, _, _, _, _, H4.out, Or.inl ⟨rfl, rfl, fun k e hk => ?_⟩⟩
      obtain rfl : i = k := by omega
      exact HD.out
end Go.Proofs.YteiihgoobhlkbaaDoor
/- Which nodes are needed, by the code: the contract. -/
namespace Go.Proofs.YteiihgoobhlkbaaDoor
open Num Go.RowKit
set_option linter.unusedVariables false
set_option linter.unusedSimpArgs false

theorem cut28 (n c b off m : Nat) (hc : 0 < c) (hm : m ≤ c) (hb : c ≤ maxLen) (w : World) : (Instr.slice 37 (.slice (some ⟨b, off, none⟩) n c) none (some (.int .i64 m)) none).run Tryd.prog w = .ok (.slice (some ⟨b, off, none⟩) m c) w := by
  have h1 : ¬ (c = 0) := by omega
  have z3 := Tryd.sizeOf3
  have u28 := Tryd.underlying37
  have e1 : Tryd.prog.elem 37 = 3 := by simp [Program.elem, u28]
  rw [run_slice_h (w := w) (t := 37) (ht := by rw [e1]; exact u28) (kh := .i64) (h0 := by omega) (h2 := by omega), e1]
  simp [go_sem, sliced, h1, z3, Addr.add]
theorem cut28' (n c b off m : Nat) (hc : 0 < c) (hm : m ≤ c) (hb : c ≤ maxLen) (w : World) : (Instr.sliceAt 37 (.slice (some ⟨b, off, none⟩) n c) none (some (.int .i64 m)) none).run Tryd.prog w = .ok (.slice (some ⟨b, off, none⟩) m c) w := by
  have u28 := Tryd.underlying37
  have e1 : Tryd.prog.elem 37 = 3 := by simp [Program.elem, u28]
  rw [run_sliceAt_slice (h := by rw [e1]; exact u28), cut28 n c b off m hc hm hb w]
theorem nt_start (w : World) (ao : Option Addr) (n c : Nat) (out : Int) (hn : n ≤ 1000) :
    Nt w (w.heap.size + 1 + 1 + 1 + 1) w.heap.size (w.heap.size + 1) (w.heap.size + 1 + 1) (w.heap.size + 1 + 1 + 1) ao n c out (List.replicate n false) none 0 0 0 0 []
      ((((w.alloc (.cells #[.slice ao n c, .int .i64 out] 24)).alloc (.cells (bools (List.replicate n false)).toArray 4)).alloc (.cells #[.slice (some ⟨w.heap.size + 1, 0, none⟩) n n] 56)).alloc (.cells #[.slice none 0 0] 37)) := by
  have h0 := mk_start w ao n c out hn
  have hz : ((w.alloc (.cells #[.slice ao n c, .int .i64 out] 24)).alloc (.cells (bools (List.replicate n false)).toArray 4)).heap.size = w.heap.size + 1 + 1 := by simp
  generalize ((w.alloc (.cells #[.slice ao n c, .int .i64 out] 24)).alloc (.cells (bools (List.replicate n false)).toArray 4)) = W at *
  have h1 := World.cell?_alloc_new W #[.slice (some ⟨w.heap.size + 1, 0, none⟩) n n] 56 0
  rw [hz] at h1
  have hz1 : (W.alloc (.cells #[.slice (some ⟨w.heap.size + 1, 0, none⟩) n n] 56)).heap.size = w.heap.size + 1 + 1 + 1 := by simp [hz]
  have hb : Below W.heap.size W (W.alloc (.cells #[.slice (some ⟨w.heap.size + 1, 0, none⟩) n n] 56)) := (Below.refl _ _).alloc (Nat.le_refl _) _
  have h2 := h0.below hb
  generalize (W.alloc (.cells #[.slice (some ⟨w.heap.size + 1, 0, none⟩) n n] 56)) = W1 at *
  have g1 := World.cell?_alloc_new W1 #[.slice none 0 0] 37 0
  have g2 := World.frozen?_alloc_new W1 #[.slice none 0 0] 37 0
  rw [hz1] at g1 g2
  have hb1 : Below W1.heap.size W1 (W1.alloc (.cells #[.slice none 0 0] 37)) := (Below.refl _ _).alloc (Nat.le_refl _) _
  have hz2 : (W1.alloc (.cells #[.slice none 0 0] 37)).heap.size = w.heap.size + 1 + 1 + 1 + 1 := by simp [hz1]
  exact ⟨h2.below hb1, cell_below hb1 h1, g1, g2, oi_nil _ _ _, by rw [hz2]; exact Nat.le_refl _, ⟨by omega, by omega, by omega, by omega⟩, ⟨by omega, by omega, by omega, by omega⟩, by omega⟩

theorem na_cnt_pop {D : List Bool} {T0 : List Nat} {a gk : Nat} (h : cntF D + (T0 ++ [a]).length = gk) : cntF D + T0.length + 1 = gk := by rw [List.length_append, List.length_singleton] at h; omega
theorem snoc_of {T : List Nat} {r : Nat} (h : T.length = r + 1) : ∃ T0 a, T = T0 ++ [a] ∧ T0.length = r := by
  have hne : T ≠ [] := fun e => by subst e; simp at h
  have e := List.dropLast_concat_getLast hne
  refine ⟨T.dropLast, T.getLast hne, e.symm, ?_⟩
  rw [List.length_dropLast]; omega
set_option maxRecDepth 100000 in
set_option maxHeartbeats 4000000 in
theorem needed_any (ao : Option Addr) (n c b off : Nat) (L : List Nv) (out : Int) (w : World) (h : Vn w ao n c b off L) (hf : Few n L) :
    Calls Tryd.prog 29 #[.agg #[.slice ao n c, .int .i64 out]] w fun e w' => (∃ N, RetT w.heap.size w' e N ∧ Nd (insL L) out N) ∧ Below w.heap.size w w' := by
  have hl := vn_len h
  have hn := hf.n
  have hr := run_falses n (by omega)
  have H := hid (And.intro h (And.intro hf hl))
  have hm := nt_start w ao n c out hn
  have hG : Hid ((insL L).length = n) := by show (insL L).length = n; rw [insL_len, hl]
  clear h hl hf
  go_enter Tryd.func29, Tryd.ntmps29
  go_wp2_with (first
    | (go_at_call 55; with_reducible refine Calls.mono (need_any _ _ _ _ _ _ _ _ _ _ _ _ _ _ _ _ _ _ _ hm ‹_› (by decide)) ?_; rintro e w1 ⟨rfl, D1, T1, ao1, r1, c1, b1, o1, hN, hX⟩; have H1 := hid (And.intro hN hX); have hct := hN.ct; clear hN hX hm))
  have hnx := H1.out.2
  have hna := nx_na hG.out (by have := na_start (insL L) out; rw [hG.out] at this; exact this) hnx (fun k e hk => Rch.out k e (by rw [hG.out]; exact hk))
  have hcn := nx_cnt hnx (by simp)
  rw [cntF_none, List.length_nil, Nat.add_zero] at hcn
  have hmk := nx_mark hnx (by simp)
  have H2 := hid (And.intro H1.out.1 (And.intro hna (And.intro hcn hmk)))
  clear hnx hna hcn hmk H1 hct hr
  generalize w.heap.size + 1 + 1 + 1 + 1 = B at *
  generalize w.heap.size + 1 + 1 + 1 = kt at *
  generalize w.heap.size + 1 + 1 = kn at *
  generalize w.heap.size + 1 = g at *
  go_loopg [6, 8] n (fun gk x6 x8 wr => ∃ (w2 : World) (D : List Bool) (T : List Nat) (ao2 : Option Addr) (r c2 b2 o2 : Nat), w2 = wr ∧ gk ≤ n ∧ cntF D + T.length = gk ∧ Nt w B w.heap.size g kn kt ao n c out D ao2 r c2 b2 o2 T w2 ∧ Na (insL L) out (fun _ => False) D T ∧ (∀ k : Nat, out = (k : Int) → k < n → bt D k = true))
  case atStart => exact ⟨_, D1, T1, _, _, _, _, _, rfl, Nat.le_refl _, H2.out.2.2.1, H2.out.1, H2.out.2.1, H2.out.2.2.2⟩
  case round =>
    obtain ⟨w2, D, T, ao2, r, c2, b2, o2, rfl, hgk, hcn, hN, hA, hM⟩ := hrel
    have hrT : T.length = r := by have := vi_len hN.li.v; rw [castL_len] at this; exact this
    have H3 := hid (And.intro hN (And.intro hA (And.intro hM (And.intro hcn hrT))))
    have hct := hN.ct
    have hcnn := hN.cn
    have hfz := hN.fz
    obtain ⟨d0, d1⟩ := hN.m.bx
    have hrn : r ≤ 1000 := by omega
    clear hN hA hM hcn hrT H2
    by_cases hr0 : r = 0
    · subst hr0
      go_wp2
      go_ret
      have hT : T = [] := List.length_eq_zero_iff.1 H3.out.2.2.2.2
      have ha := H3.out.2.1
      rw [hT] at ha
      exact ⟨⟨D, ⟨_, _, _, _, _, rfl, H3.out.1.m.d⟩, na_end ha (fun k e hk => H3.out.2.2.1 k e (by rw [hG.out] at hk; exact hk))⟩, H3.out.1.m.low⟩
    · obtain ⟨r', rfl⟩ : ∃ r', r = r' + 1 := ⟨r - 1, by omega⟩
      obtain ⟨T0, a, rfl, hT0⟩ := snoc_of H3.out.2.2.2.2
      obtain ⟨ha, hba, hna⟩ := na_pop H3.out.2.1
      rw [hG.out] at ha
      have haz : (a : Int) < (n : Int) := by omega
      have e0 := (vi_at H3.out.1.li.v (i := r') (castL_get (k := a) (by rw [List.getElem?_append_right (by omega), hT0]; simp))).2
      obtain rfl := H3.out.1.li.v.addr (by have := H3.out.1.li.v.le; omega)
      have s0 := cut28 (r' + 1) c2 b2 o2 r' (by have := H3.out.1.li.v.le; omega) (by have := H3.out.1.li.v.le; omega) H3.out.1.li.v.max
      have s1 := cut28' (r' + 1) c2 b2 o2 r' (by have := H3.out.1.li.v.le; omega) (by have := H3.out.1.li.v.le; omega) H3.out.1.li.v.max
      have hz : ((r' + 1 : Nat) : Int) - 1 = (r' : Int) := by omega
      have hz1 : (r' : Int) < ((r' + 1 : Nat) : Int) := by omega
      have hz2 : 0 < ((r' + 1 : Nat) : Int) := by omega
      have htk : (castL (T0 ++ [a])).take r' = castL T0 := by rw [castL_app, List.take_append_of_le_length (by rw [castL_len]; omega), List.take_of_length_le (by rw [castL_len]; omega)]
      have hli := oi_take H3.out.1.li (k := r') (by omega)
      rw [htk] at hli
      obtain ⟨-, -, hN4⟩ := nt_list H3.out.1 (Below.refl _ _) hli
      obtain ⟨v, hv⟩ : ∃ v, L[a]? = some v := ⟨_, List.getElem?_eq_getElem (by rw [H.out.2.2]; exact ha)⟩
      obtain ⟨hao, ⟨f0, f1, f2⟩, hvi, hvp⟩ := vn_at (H.out.1.below hN4.m.low) hv
      have HE := hid (And.intro (insL_at hv) (And.intro (H.out.1.i v (List.mem_of_getElem? hv)) (vi_len hvi)))
      have hni := H.out.2.1.i v (List.mem_of_getElem? hv)
      obtain ⟨p0, p1⟩ := hN4.m.bx
      have H4 := hid (And.intro hN4 (And.intro hna (And.intro (na_cnt_pop (T0 := T0) (a := a) H3.out.2.2.2.1) hba)))
      clear hv hvi hvp hli htk hna hba f0 f2 hN4
      generalize v.ai = ai at *
      generalize v.ni = ni at *
      generalize v.ci = ci at *
      generalize v.bi = bi at *
      generalize v.oi = oi at *
      generalize v.l = l at *
      clear v
      go_wp2
      clear hao p0 p1 f1 hct hcnn hfz d0 d1 e0 s0 s1
      generalize (w2.setCell ⟨kt, 0, none⟩ (.slice (some ⟨b2, o2, none⟩) r' c2)) = W4 at *
      have HO := hid H3.out.2.2.1
      clear H3
      generalize (some ⟨b2, o2, none⟩ : Option Addr) = a4 at *
      go_loopg [8, 39] ni (fun gj x8 x39 wr => ∃ (w5 : World) (j : Nat) (D : List Bool) (T : List Nat) (ao2 : Option Addr) (r c2 b2 o2 : Nat), w5 = wr ∧ j ≤ ni ∧ gj = ni - j ∧ x39 = .int .i64 j ∧ Nt w B w.heap.size g kn kt ao n c out D ao2 r c2 b2 o2 T w5 ∧ Na (insL L) out (fun i => i = a) D T ∧ cntF D + T.length + 1 = gk ∧ bt D a = true ∧ (∀ k : Nat, out = (k : Int) → k < n → bt D k = true) ∧ (∀ k : Nat, (k : Int) ∈ l.take j → k < n → bt D k = true))
      case atStart => exact ⟨_, 0, D, T0, _, _, _, _, _, rfl, Nat.zero_le _, rfl, rfl, H4.out.1, H4.out.2.1, H4.out.2.2.1, H4.out.2.2.2, HO.out, fun k hk => by simp at hk⟩
      case round =>
        obtain ⟨w5, j, D5, T5, ao5, r5, c5, b5, o5, rfl, hj, rfl, rfl, hN, hA, hcn, hba, hM, hI⟩ := hrel
        have hr5 : T5.length = r5 := by have := vi_len hN.li.v; rw [castL_len] at this; exact this
        have hr5n : r5 ≤ 2000 := by omega
        have H5 := hid (And.intro hN (And.intro hA (And.intro hcn (And.intro hba (And.intro hM hI)))))
        clear hN hA hcn hba hM hI hr5 H4 HO
        by_cases hjlt : j < ni
        · have hjlz : (j : Int) < (ni : Int) := by omega
          obtain ⟨x, hx⟩ : ∃ m, l[j]? = some m := ⟨_, List.getElem?_eq_getElem (by rw [HE.out.2.2]; exact hjlt)⟩
          obtain ⟨rfl, e0⟩ := vi_at (HE.out.2.1.below H5.out.1.m.low) hx
          have HX := hid hx
          clear hx
          go_wp2_with (first
            | (go_at_call 55; with_reducible refine Calls.mono (need_any _ _ _ _ _ _ _ _ _ _ _ _ _ _ _ _ _ _ _ H5.out.1 ‹_› ‹_›) ?_; rintro e w6 ⟨rfl, D6, T6, ao6, r6, c6, b6, o6, hN, hX⟩; have H6 := hid (And.intro hN hX); clear hN hX))
          go_roundg (ni - (j + 1))
          case measure => omega
          case rel =>
            have hnx := H6.out.2
            have hxa : ∀ k : Nat, x = (k : Int) → k < n → Rch (insL L) out k := fun k e hk => by
              have hha : hasB (insL L) a k = true := has_iff.2 (by rw [HE.out.1, ← e]; exact List.mem_of_getElem? HX.out)
              exact Rch.step a k (H5.out.2.1.sound a (by rw [hG.out]; exact ha) H5.out.2.2.2.1) (by rw [hG.out]; exact hk) hha
            refine ⟨_, j + 1, D6, T6, _, _, _, _, _, rfl, hjlt, rfl, by simp, H6.out.1, nx_na hG.out H5.out.2.1 hnx hxa, by rw [nx_cnt hnx H5.out.1.m.len]; exact H5.out.2.2.1, nx_mono hnx H5.out.2.2.2.1, fun k e hk => nx_mono hnx (H5.out.2.2.2.2.1 k e hk), fun k hk hkn => ?_⟩
            rw [List.take_add_one, HX.out] at hk
            rcases List.mem_append.1 hk with hk | hk
            · exact nx_mono hnx (H5.out.2.2.2.2.2 k hk hkn)
            · simp at hk
              exact nx_mark hnx H5.out.1.m.len k hk.symm hkn
        · obtain rfl : j = ni := by omega
          go_wp2
          go_roundg (gk - 1)
          case measure => have := H5.out.2.2.1; omega
          case rel =>
            have hcn := H5.out.2.2.1
            refine ⟨_, D5, T5, _, _, _, _, _, rfl, by omega, by omega, H5.out.1, na_done H5.out.2.1 (fun k hk hh => H5.out.2.2.2.2.2 k ?_ (by rw [hG.out] at hk; exact hk)), H5.out.2.2.2.2.1⟩
            rw [List.take_of_length_le (by rw [HE.out.2.2]; exact Nat.le_refl _), ← HE.out.1]
            exact has_iff.1 hh
end Go.Proofs.YteiihgoobhlkbaaDoor
