/- A row's means: the contract. -/
import Derived.Test.YtfgfgfmimejpdaaMean
namespace Go.Proofs.Ytfgfgfmimejpdaa
open Num Go.RowKit
set_option linter.unusedVariables false
set_option linter.unusedSimpArgs false

theorem Ch.other {g o m k : Nat} {w w1 w2 : World} (h : Ch g o m w w1) (hb : But k w1 w2) (hg : g < w.heap.size) (hk : w.heap.size ≤ k) : Ch g o m w w2 := by
  have e := hb.block g (Nat.lt_of_lt_of_le hg h.but.size) (by omega)
  refine ⟨⟨hb.os.trans h.but.os, hb.tape.trans h.but.tape, hb.output.trans h.but.output, Nat.le_trans h.but.size hb.size, fun i hi hig => ?_⟩, fun j hj => ?_, fun j => ?_⟩
  · exact (hb.block i (Nat.lt_of_lt_of_le hi h.but.size) (by omega)).trans (h.but.block i hi hig)
  · exact (World.cell?_of_block (a := ⟨g, j, none⟩) e).trans (h.out j hj)
  · exact (World.frozen?_of_block (a := ⟨g, j, none⟩) e).trans (h.fz j)
theorem line_snoc (F : Int → X) (m : Nat) : line F 0 ((m : Int) + 1) = line F 0 (m : Int) ++ [F (m : Int)] := by
  unfold line
  rw [show ((m : Int) + 1 - 0).toNat = m + 1 by omega, show ((m : Int) - 0).toNat = m by omega, List.range_succ, List.map_append]
  simp
theorem lies_snoc {w : World} {g o : Nat} {cs news : List Value} (h : Lies w g o cs) (h2 : Lies w g (o + cs.length) news) : Lies w g o (cs ++ news) := by
  intro j u hu
  by_cases hj : j < cs.length
  · rw [List.getElem?_append_left hj] at hu
    exact h j u hu
  · rw [List.getElem?_append_right (by omega)] at hu
    have := h2 _ _ hu
    rwa [show o + cs.length + (j - cs.length) = o + j by omega] at this
theorem lies_four {w : World} {g o : Nat} {v0 v1 v2 v3 : Value} (h0 : w.cell? ⟨g, o, none⟩ = some v0) (h1 : w.cell? ⟨g, o + 1, none⟩ = some v1) (h2 : w.cell? ⟨g, o + 2, none⟩ = some v2) (h3 : w.cell? ⟨g, o + 3, none⟩ = some v3) : Lies w g o [v0, v1, v2, v3] := by
  intro j u hu
  match j with
  | 0 => simp at hu; subst hu; exact h0
  | 1 => simp at hu; subst hu; exact h1
  | 2 => simp at hu; subst hu; exact h2
  | 3 => simp at hu; subst hu; exact h3
  | j + 4 => simp at hu
/-- four cells in a row, written -/
theorem set4o {w : World} {g o : Nat} (h0 : (w.cell? ⟨g, o, none⟩).isSome = true) (h1 : (w.cell? ⟨g, o + 1, none⟩).isSome = true) (h2 : (w.cell? ⟨g, o + 2, none⟩).isSome = true) (h3 : (w.cell? ⟨g, o + 3, none⟩).isSome = true) (v0 v1 v2 v3 : Value) :
    Lies ((((w.setCell ⟨g, o, none⟩ v0).setCell ⟨g, o + 1, none⟩ v1).setCell ⟨g, o + 2, none⟩ v2).setCell ⟨g, o + 3, none⟩ v3) g o [v0, v1, v2, v3] := by
  have e : (((w.setCell ⟨g, o, none⟩ v0).setCell ⟨g, o + 1, none⟩ v1).setCell ⟨g, o + 2, none⟩ v2).setCell ⟨g, o + 3, none⟩ v3 = w.setCells g o [v0, v1, v2, v3] := rfl
  rw [e]
  intro j u hu
  have hj : j < [v0, v1, v2, v3].length := (List.getElem?_eq_some_iff.1 hu).1
  have hr : ∀ j, j < [v0, v1, v2, v3].length → (w.cell? ⟨g, o + j, none⟩).isSome = true := by
    intro j hj
    match j with
    | 0 => exact h0
    | 1 => exact h1
    | 2 => exact h2
    | 3 => exact h3
    | j + 4 => exact absurd hj (by simp only [List.length_cons, List.length_nil]; omega)
  rw [World.cell?_setCells_in g _ o w hr j hj, ← hu, List.getElem?_eq_getElem hj]

/-- there is room for K pixels -/
def Room (w : World) (g o K : Nat) : Prop := ∀ j, j < K * 4 → (w.cell? ⟨g, o + j, none⟩).isSome = true ∧ w.frozen? ⟨g, o + j, none⟩ = false
/-- a row that is being made -/
structure Rs (w : World) (g o K k : Nat) (n fc fg foff : Nat) (l : List X) (s : X) (F : Int → X) (M : Int) (wr : World) : Prop where
  u : Us wr k 0 s
  c : Ch g o (K * 4) w wr
  v : Vx wr (some ⟨fg, foff, none⟩) n fc fg foff l
  d : Lies wr g o (flat (line F 0 M))
  r : Room wr g o K
  hk : w.heap.size ≤ k
  hg : g < w.heap.size
  hf : fg < w.heap.size
  hn : fg ≠ g
section
variable {w : World} {g o K k n fc fg foff : Nat} {l : List X} {s : X} {F : Int → X} {M : Int} {wr wr' : World}
theorem Rs.sum (h : Rs w g o K k n fc fg foff l s F M wr) {s' : X} (hu : Us wr' k 0 s') (hc : Ch k 0 4 wr wr') : Rs w g o K k n fc fg foff l s' F M wr' := by
  have hgr := Nat.lt_of_lt_of_le h.hg h.c.but.size
  have e := hc.but.block g hgr (by have := h.hk; have := h.hg; omega)
  refine ⟨hu, h.c.other hc.but h.hg h.hk, h.v.but hc.but (by have := h.hk; have := h.hf; omega), h.d.block e, fun j hj => ?_, h.hk, h.hg, h.hf, h.hn⟩
  rw [World.cell?_of_block (a := ⟨g, o + j, none⟩) e, World.frozen?_of_block (a := ⟨g, o + j, none⟩) e]
  exact h.r j hj
theorem Rs.below (h : Rs w g o K k n fc fg foff l s F M wr) (hb : Below wr.heap.size wr wr') : Rs w g o K k n fc fg foff l s F M wr' := by
  have hgr := Nat.lt_of_lt_of_le h.hg h.c.but.size
  have e := hb.block g hgr
  refine ⟨h.u.below hb, h.c.to h.hg hb, h.v.below hb, h.d.block e, fun j hj => ?_, h.hk, h.hg, h.hf, h.hn⟩
  rw [World.cell?_of_block (a := ⟨g, o + j, none⟩) e, World.frozen?_of_block (a := ⟨g, o + j, none⟩) e]
  exact h.r j hj
theorem Rs.four (h : Rs w g o K k n fc fg foff l s F M wr) {m : Nat} (hm : m < K) : ∃ u0 u1 u2 u3, wr.cell? ⟨g, o + m * 4, none⟩ = some u0 ∧ wr.cell? ⟨g, o + m * 4 + 1, none⟩ = some u1 ∧ wr.cell? ⟨g, o + m * 4 + 2, none⟩ = some u2 ∧ wr.cell? ⟨g, o + m * 4 + 3, none⟩ = some u3 ∧
    wr.frozen? ⟨g, o + m * 4, none⟩ = false ∧ wr.frozen? ⟨g, o + m * 4 + 1, none⟩ = false ∧ wr.frozen? ⟨g, o + m * 4 + 2, none⟩ = false ∧ wr.frozen? ⟨g, o + m * 4 + 3, none⟩ = false := by
  have r : ∀ j, j < 4 → (wr.cell? ⟨g, o + m * 4 + j, none⟩).isSome = true ∧ wr.frozen? ⟨g, o + m * 4 + j, none⟩ = false := by
    intro j hj
    rw [Nat.add_assoc]
    exact h.r _ (by omega)
  have r0 := r 0 (by omega)
  rw [Nat.add_zero] at r0
  obtain ⟨u0, e0⟩ := Option.isSome_iff_exists.1 r0.1
  obtain ⟨u1, e1⟩ := Option.isSome_iff_exists.1 (r 1 (by omega)).1
  obtain ⟨u2, e2⟩ := Option.isSome_iff_exists.1 (r 2 (by omega)).1
  obtain ⟨u3, e3⟩ := Option.isSome_iff_exists.1 (r 3 (by omega)).1
  exact ⟨u0, u1, u2, u3, e0, e1, e2, e3, r0.2, (r 1 (by omega)).2, (r 2 (by omega)).2, (r 3 (by omega)).2⟩
/-- one pixel more -/
theorem Rs.pix {m : Nat} (h : Rs w g o K k n fc fg foff l s F (m : Int) wr) (hm : m < K) {p : X} (hp : p = F (m : Int)) :
    Rs w g o K k n fc fg foff l s F ((m : Int) + 1) ((((wr.setCell ⟨g, o + m * 4, none⟩ (.int .u8 p.c0)).setCell ⟨g, o + m * 4 + 1, none⟩ (.int .u8 p.c1)).setCell ⟨g, o + m * 4 + 2, none⟩ (.int .u8 p.c2)).setCell ⟨g, o + m * 4 + 3, none⟩ (.int .u8 p.c3)) := by
  subst hp
  obtain ⟨u0, u1, u2, u3, e0, e1, e2, e3, -⟩ := h.four hm
  have hb : But g wr ((((wr.setCell ⟨g, o + m * 4, none⟩ (.int .u8 (F (m : Int)).c0)).setCell ⟨g, o + m * 4 + 1, none⟩ (.int .u8 (F (m : Int)).c1)).setCell ⟨g, o + m * 4 + 2, none⟩ (.int .u8 (F (m : Int)).c2)).setCell ⟨g, o + m * 4 + 3, none⟩ (.int .u8 (F (m : Int)).c3)) :=
    but_cells g (o + m * 4) [.int .u8 (F (m : Int)).c0, .int .u8 (F (m : Int)).c1, .int .u8 (F (m : Int)).c2, .int .u8 (F (m : Int)).c3] wr
  have hc : Ch g o (K * 4) w ((((wr.setCell ⟨g, o + m * 4, none⟩ (.int .u8 (F (m : Int)).c0)).setCell ⟨g, o + m * 4 + 1, none⟩ (.int .u8 (F (m : Int)).c1)).setCell ⟨g, o + m * 4 + 2, none⟩ (.int .u8 (F (m : Int)).c2)).setCell ⟨g, o + m * 4 + 3, none⟩ (.int .u8 (F (m : Int)).c3)) :=
    (((h.c.cell (by omega) (by omega) _).cell (by omega) (by omega) _).cell (by omega) (by omega) _).cell (by omega) (by omega) _
  refine ⟨h.u.but hb (by have := h.hk; have := h.hg; omega), hc, h.v.but hb h.hn, ?_, fun j hj => ?_, h.hk, h.hg, h.hf, h.hn⟩
  · rw [line_snoc, flat_append]
    apply lies_snoc
    · intro j u hu
      have hj : j < (flat (line F 0 (m : Int))).length := (List.getElem?_eq_some_iff.1 hu).1
      rw [flat_len, line_len] at hj
      have := h.d j u hu
      rw [World.cell?_setCell_other _ _ _ _ (by intro h; injection h; omega), World.cell?_setCell_other _ _ _ _ (by intro h; injection h; omega), World.cell?_setCell_other _ _ _ _ (by intro h; injection h; omega), World.cell?_setCell_other _ _ _ _ (by intro h; injection h; omega)]
      exact this
    · rw [flat_len, line_len, show ((m : Int) - 0).toNat = m by omega]
      exact set4o (by rw [e0]; rfl) (by rw [e1]; rfl) (by rw [e2]; rfl) (by rw [e3]; rfl) _ _ _ _
  · have hr := h.r j hj
    refine ⟨?_, by rw [World.frozen?_setCell, World.frozen?_setCell, World.frozen?_setCell, World.frozen?_setCell]; exact hr.2⟩
    by_cases hin : m * 4 ≤ j ∧ j < m * 4 + 4
    · have hL := set4o (w := wr) (g := g) (o := o + m * 4) (by rw [e0]; rfl) (by rw [e1]; rfl) (by rw [e2]; rfl) (by rw [e3]; rfl) (.int .u8 (F (m : Int)).c0) (.int .u8 (F (m : Int)).c1) (.int .u8 (F (m : Int)).c2) (.int .u8 (F (m : Int)).c3)
      have := hL (j - m * 4) _ (List.getElem?_eq_getElem (by simp; omega))
      rw [show o + m * 4 + (j - m * 4) = o + j by omega] at this
      rw [this]
      rfl
    · rw [World.cell?_setCell_other _ _ _ _ (by intro h; injection h; omega), World.cell?_setCell_other _ _ _ _ (by intro h; injection h; omega), World.cell?_setCell_other _ _ _ _ (by intro h; injection h; omega), World.cell?_setCell_other _ _ _ _ (by intro h; injection h; omega)]
      exact hr.1
theorem Rs.re (h : Rs w g o K k n fc fg foff l s F M wr) {M' : Int} (e : M' = M ∨ (M ≤ 0 ∧ M' ≤ 0)) : Rs w g o K k n fc fg foff l s F M' wr := by
  rcases e with e | ⟨e1, e2⟩
  · rw [e]; exact h
  · have : line F 0 M' = [] := List.length_eq_zero_iff.1 (by rw [line_len]; omega)
    exact ⟨h.u, h.c, h.v, by rw [this]; exact lies_nil _ _ _, h.r, h.hk, h.hg, h.hf, h.hn⟩
end
/-- the window's sum goes along -/
theorem go_in (l : List X) (r : Nat) (i : Int) : addX (sumX (gl l) (i - 2 * (r : Int)) (2 * r)) (gl l i) = sumX (gl l) (i - 2 * (r : Int)) (2 * r + 1) := by
  rw [sumX, show i - 2 * (r : Int) + ((2 * r : Nat) : Int) = i by omega]
theorem go_out (l : List X) (r : Nat) (i : Int) : subX (sumX (gl l) (i - 2 * (r : Int)) (2 * r + 1)) (gl l (i - 2 * (r : Int))) = sumX (gl l) (i + 1 - 2 * (r : Int)) (2 * r) := by
  rw [sum_slide, show i - 2 * (r : Int) + 1 = i + 1 - 2 * (r : Int) by omega]
theorem sum_some {l : List X} (h : ∀ p, p ∈ l → byteX p) (a : Int) {n : Nat} (hn : n ≤ 511) : upX 1000000 (sumX (gl l) a n) := by
  have := sum_up (gl_byte h) a n
  unfold upX at *
  omega
theorem mean_v (k o : Nat) (s : X) (r : Nat) (w : World) (h : Us w k o s) (hr : r ≤ 255) (hs : upX (255 * (2 * (r : Int) + 1)) s) :
    Calls Try.prog 95 #[.pointer (some ⟨k, o, none⟩), .int .i64 (r : Int)] w fun e w' => e = .returned (.agg #[.int .u8 (meanX s (r : Int)).c0, .int .u8 (meanX s (r : Int)).c1, .int .u8 (meanX s (r : Int)).c2, .int .u8 (meanX s (r : Int)).c3]) ∧ Below w.heap.size w w' := mean_any k o s r w h hr hs
def rowF (l : List X) (lead : Int) (r : Nat) (x : Int) : X := meanX (sumX (gl l) (x + lead - (r : Int)) (2 * r + 1)) (r : Int)

set_option maxRecDepth 100000 in
set_option maxHeartbeats 4000000 in
theorem alongRow_any (g o K c n fc fg foff : Nat) (l : List X) (lead : Int) (r : Nat) (w : World) (hV : Vx w (some ⟨fg, foff, none⟩) n fc fg foff l) (hR : Room w g o K) (hg : g < w.heap.size) (hf : fg < w.heap.size) (hne : fg ≠ g) (hb : ∀ p, p ∈ l → byteX p) (hr : r ≤ 255) (hl0 : -(r : Int) ≤ lead) (hl1 : lead ≤ (r : Int)) (hK : K ≤ 1000000) (hn : n ≤ 1000000) :
    Calls Try.prog 86 #[.slice (some ⟨g, o, none⟩) K c, .slice (some ⟨fg, foff, none⟩) n fc, .int .i64 lead, .int .i64 (r : Int)] w fun e w' => e = .returned (.tuple #[]) ∧ Ch g o (K * 4) w w' ∧ Lies w' g o (flat (line (rowF l lead r) 0 (K : Int))) := by
  have hll := vx_len hV
  obtain ⟨T, hT⟩ : ∃ T : Nat, (K : Int) + lead + (r : Int) = (T : Int) := ⟨((K : Int) + lead + (r : Int)).toNat, by omega⟩
  have HS : Hid (Rs w g o K w.heap.size n fc fg foff l (sumX (gl l) (((0 : Nat) : Int) - 2 * (r : Int)) (2 * r)) (rowF l lead r) (((0 : Nat) : Int) - (r : Int) - lead) (w.alloc (.cells #[.int .u32 0, .int .u32 0, .int .u32 0, .int .u32 0] 95))) := by
    have hb := (Below.refl w.heap.size w).alloc (Nat.le_refl _) (.cells #[.int .u32 0, .int .u32 0, .int .u32 0, .int .u32 0] 95)
    have e := hb.block g hg
    refine ⟨?_, Ch.of hg hb, hV.below hb, ?_, fun j hj => ?_, Nat.le_refl _, hg, hf, hne⟩
    · rw [sum_zero _ _ (fun x h1 h2 => gl_out (by omega))]
      exact ⟨World.cell?_alloc_new w _ _ 0, World.cell?_alloc_new w _ _ 1, World.cell?_alloc_new w _ _ 2, World.cell?_alloc_new w _ _ 3, fun j => World.frozen?_alloc_new w _ _ j⟩
    · have : line (rowF l lead r) 0 (((0 : Nat) : Int) - (r : Int) - lead) = [] := List.length_eq_zero_iff.1 (by rw [line_len]; omega)
      rw [this]
      exact lies_nil _ _ _
    · rw [World.cell?_of_block (a := ⟨g, o + j, none⟩) e, World.frozen?_of_block (a := ⟨g, o + j, none⟩) e]
      exact hR j hj
  have HB := hid hb
  have HLL := hid hll
  clear hb hll hV hR
  go_enter Try.func86, Try.ntmps86
  go_wp2
  go_loopg [18] T (fun gh v18 wr => ∃ i : Nat, i ≤ T ∧ gh = T - i ∧ v18 = .int .i64 (i : Int) ∧ Rs w g o K w.heap.size n fc fg foff l (sumX (gl l) ((i : Int) - 2 * (r : Int)) (2 * r)) (rowF l lead r) ((i : Int) - (r : Int) - lead) wr)
  case atStart => exact ⟨0, Nat.zero_le _, rfl, rfl, HS.out⟩
  case round =>
    clear HS
    obtain ⟨i, hi, rfl, rfl, hS⟩ := hrel
    by_cases hlt : i < T
    · have hlz : (i : Int) < (T : Int) := by omega
      obtain ⟨S0, hS0⟩ : ∃ S0, S0 = sumX (gl l) ((i : Int) - 2 * (r : Int)) (2 * r) := ⟨_, rfl⟩
      obtain ⟨S1, hS1⟩ : ∃ S1, S1 = sumX (gl l) ((i : Int) - 2 * (r : Int)) (2 * r + 1) := ⟨_, rfl⟩
      obtain ⟨S2, hS2⟩ : ∃ S2, S2 = sumX (gl l) ((i : Int) + 1 - 2 * (r : Int)) (2 * r) := ⟨_, rfl⟩
      have HU : Hid (upX 1000000 S0 ∧ upX 1000000 S1 ∧ upX 1000000 S2 ∧ upX (255 * (2 * (r : Int) + 1)) S1) := by
        rw [hS0, hS1, hS2]
        refine ⟨sum_some HB.out _ (by omega), sum_some HB.out _ (by omega), sum_some HB.out _ (by omega), ?_⟩
        have := sum_up (gl_byte HB.out) ((i : Int) - 2 * (r : Int)) (2 * r + 1)
        rwa [show ((2 * r + 1 : Nat) : Int) = 2 * (r : Int) + 1 by omega] at this
      have HIN : Hid (addX S0 (gl l (i : Int)) = S1) := by rw [hS0, hS1]; exact go_in l r i
      have HOUT : Hid (subX S1 (gl l ((i : Int) - 2 * (r : Int))) = S2) := by rw [hS1, hS2]; exact go_out l r i
      have HMN : Hid (∀ m : Nat, (i : Int) - (r : Int) - lead = (m : Int) → meanX S1 (r : Int) = rowF l lead r (m : Int)) := by
        intro m hm
        unfold rowF
        rw [hS1, show (m : Int) + lead - (r : Int) = (i : Int) - 2 * (r : Int) by omega]
      have HE : Hid (S2 = sumX (gl l) (((i + 1 : Nat) : Int) - 2 * (r : Int)) (2 * r)) := by rw [hS2]; rfl
      rw [← hS0] at hS
      have HS := hid hS
      clear hS hS0 hS1 hS2
      by_cases ha : i < n
      · have haz : (i : Int) < (n : Int) := by omega
        by_cases hbm : 0 ≤ (i : Int) - (r : Int) - lead
        · obtain ⟨m, hm⟩ : ∃ m : Nat, (i : Int) - (r : Int) - lead = (m : Int) := ⟨((i : Int) - (r : Int) - lead).toNat, by omega⟩
          have hmz : (0 : Int) ≤ (m : Int) := by omega
          have hmk : (m : Int) < (K : Int) := by omega
          by_cases h2 : (i : Int) - 2 * (r : Int) < 0
          · have h2z : ¬ (0 : Int) ≤ (i : Int) - 2 * (r : Int) := by omega
            clear h2
            obtain ⟨p, hp⟩ : ∃ p, l[i]? = some p := ⟨_, List.getElem?_eq_getElem (by rw [HLL.out]; omega)⟩
            have HP : Hid (l[i]? = some p ∧ byteX p ∧ addX S0 p = S1) := ⟨hp, HB.out p (List.mem_of_getElem? hp), by rw [← gl_in hp]; exact HIN.out⟩
            obtain ⟨-, r0, r1, r2, r3⟩ := vx_at HS.out.v hp
            clear hp
            have E2 : Hid (S1 = S2) := by have := HOUT.out; rw [gl_out (by rw [HLL.out]; omega), sub_no] at this; exact this
            clear HIN HOUT
            go_wp2_with (first
              | (go_at_call 94; with_reducible refine Calls.mono (add_any w.heap.size 0 S0 p _ HS.out.u (by rw [HP.out.2.2]; exact HU.out.2.1) HP.out.2.1) ?_; rintro e w1 ⟨rfl, hu, hc⟩; rw [HP.out.2.2] at hu; have HS1 := hid (HS.out.sum hu hc); clear hu hc r0 r1 r2 r3)
              | (go_at_call 95; with_reducible refine Calls.mono (mean_v w.heap.size 0 S1 r _ HS1.out.u hr HU.out.2.2.2) ?_; rintro e w2 ⟨rfl, hb⟩; have HS2 := hid (HS1.out.below hb); clear hb; obtain ⟨u0, u1, u2, u3, e0, e1, e2, e3, f0, f1, f2, f3⟩ := HS2.out.four (m := m) (by omega); have HS3 := hid ((HS2.out.re (M' := (m : Int)) (by omega)).pix (by omega) (HMN.out m hm))))
            go_roundg (T - (i + 1))
            case measure => omega
            case rel => exact ⟨i + 1, by omega, rfl, by simp, (by rw [← HE.out, ← E2.out]; exact HS3.out.re (by omega))⟩
          obtain ⟨q, hq⟩ : ∃ q : Nat, (i : Int) - 2 * (r : Int) = (q : Int) := ⟨((i : Int) - 2 * (r : Int)).toNat, by omega⟩
          have hqz : (0 : Int) ≤ (q : Int) := by omega
          by_cases h3 : q < n
          · have h3z : (q : Int) < (n : Int) := by omega
            obtain ⟨p, hp⟩ : ∃ p, l[i]? = some p := ⟨_, List.getElem?_eq_getElem (by rw [HLL.out]; omega)⟩
            have HP : Hid (l[i]? = some p ∧ byteX p ∧ addX S0 p = S1) := ⟨hp, HB.out p (List.mem_of_getElem? hp), by rw [← gl_in hp]; exact HIN.out⟩
            obtain ⟨-, r0, r1, r2, r3⟩ := vx_at HS.out.v hp
            clear hp
            obtain ⟨p', hp'⟩ : ∃ p, l[q]? = some p := ⟨_, List.getElem?_eq_getElem (by rw [HLL.out]; omega)⟩
            have HQ : Hid (l[q]? = some p' ∧ byteX p' ∧ subX S1 p' = S2) := ⟨hp', HB.out p' (List.mem_of_getElem? hp'), by rw [← gl_in hp', ← hq]; exact HOUT.out⟩
            clear hp'
            clear HIN HOUT
            go_wp2_with (first
              | (go_at_call 94; with_reducible refine Calls.mono (add_any w.heap.size 0 S0 p _ HS.out.u (by rw [HP.out.2.2]; exact HU.out.2.1) HP.out.2.1) ?_; rintro e w1 ⟨rfl, hu, hc⟩; rw [HP.out.2.2] at hu; have HS1 := hid (HS.out.sum hu hc); clear hu hc r0 r1 r2 r3)
              | (go_at_call 95; with_reducible refine Calls.mono (mean_v w.heap.size 0 S1 r _ HS1.out.u hr HU.out.2.2.2) ?_; rintro e w2 ⟨rfl, hb⟩; have HS2 := hid (HS1.out.below hb); clear hb; obtain ⟨u0, u1, u2, u3, e0, e1, e2, e3, f0, f1, f2, f3⟩ := HS2.out.four (m := m) (by omega); have HS3 := hid ((HS2.out.re (M' := (m : Int)) (by omega)).pix (by omega) (HMN.out m hm)); obtain ⟨-, t0, t1, t2, t3⟩ := vx_at HS3.out.v HQ.out.1)
              | (go_at_call 96; with_reducible refine Calls.mono (take_any w.heap.size 0 S1 p' _ HS3.out.u (by rw [HQ.out.2.2]; exact HU.out.2.2.1) HQ.out.2.1) ?_; rintro e w4 ⟨rfl, hu, hc⟩; rw [HQ.out.2.2] at hu; have HS4 := hid (HS3.out.sum hu hc); clear hu hc))
            go_roundg (T - (i + 1))
            case measure => omega
            case rel => exact ⟨i + 1, by omega, rfl, by simp, (by rw [← HE.out]; exact HS4.out.re (by omega))⟩
          · exfalso; omega
        · have hbz : ¬ (0 : Int) ≤ (i : Int) - (r : Int) - lead := hbm
          have h2z : ¬ (0 : Int) ≤ (i : Int) - 2 * (r : Int) := by omega
          obtain ⟨p, hp⟩ : ∃ p, l[i]? = some p := ⟨_, List.getElem?_eq_getElem (by rw [HLL.out]; omega)⟩
          have HP : Hid (l[i]? = some p ∧ byteX p ∧ addX S0 p = S1) := ⟨hp, HB.out p (List.mem_of_getElem? hp), by rw [← gl_in hp]; exact HIN.out⟩
          obtain ⟨-, r0, r1, r2, r3⟩ := vx_at HS.out.v hp
          clear hp
          have E2 : Hid (S1 = S2) := by have := HOUT.out; rw [gl_out (by rw [HLL.out]; omega), sub_no] at this; exact this
          clear HIN HOUT
          go_wp2_with (first
            | (go_at_call 94; with_reducible refine Calls.mono (add_any w.heap.size 0 S0 p _ HS.out.u (by rw [HP.out.2.2]; exact HU.out.2.1) HP.out.2.1) ?_; rintro e w1 ⟨rfl, hu, hc⟩; rw [HP.out.2.2] at hu; have HS1 := hid (HS.out.sum hu hc); clear hu hc r0 r1 r2 r3))
          go_roundg (T - (i + 1))
          case measure => omega
          case rel => exact ⟨i + 1, by omega, rfl, by simp, (by rw [← HE.out, ← E2.out]; exact HS1.out.re (by omega))⟩
      · have haz : ¬ (i : Int) < (n : Int) := by omega
        by_cases hbm : 0 ≤ (i : Int) - (r : Int) - lead
        · obtain ⟨m, hm⟩ : ∃ m : Nat, (i : Int) - (r : Int) - lead = (m : Int) := ⟨((i : Int) - (r : Int) - lead).toNat, by omega⟩
          have hmz : (0 : Int) ≤ (m : Int) := by omega
          have hmk : (m : Int) < (K : Int) := by omega
          by_cases h2 : (i : Int) - 2 * (r : Int) < 0
          · have h2z : ¬ (0 : Int) ≤ (i : Int) - 2 * (r : Int) := by omega
            clear h2
            have E1 : S0 = S1 := by have := HIN.out; rw [gl_out (by rw [HLL.out]; omega), add_no] at this; exact this
            subst E1
            have E2 : Hid (S0 = S2) := by have := HOUT.out; rw [gl_out (by rw [HLL.out]; omega), sub_no] at this; exact this
            clear HIN HOUT
            go_wp2_with (first
              | (go_at_call 95; with_reducible refine Calls.mono (mean_v w.heap.size 0 S0 r _ HS.out.u hr HU.out.2.2.2) ?_; rintro e w2 ⟨rfl, hb⟩; have HS2 := hid (HS.out.below hb); clear hb; obtain ⟨u0, u1, u2, u3, e0, e1, e2, e3, f0, f1, f2, f3⟩ := HS2.out.four (m := m) (by omega); have HS3 := hid ((HS2.out.re (M' := (m : Int)) (by omega)).pix (by omega) (HMN.out m hm))))
            go_roundg (T - (i + 1))
            case measure => omega
            case rel => exact ⟨i + 1, by omega, rfl, by simp, (by rw [← HE.out, ← E2.out]; exact HS3.out.re (by omega))⟩
          obtain ⟨q, hq⟩ : ∃ q : Nat, (i : Int) - 2 * (r : Int) = (q : Int) := ⟨((i : Int) - 2 * (r : Int)).toNat, by omega⟩
          have hqz : (0 : Int) ≤ (q : Int) := by omega
          by_cases h3 : q < n
          · have h3z : (q : Int) < (n : Int) := by omega
            have E1 : S0 = S1 := by have := HIN.out; rw [gl_out (by rw [HLL.out]; omega), add_no] at this; exact this
            subst E1
            obtain ⟨p', hp'⟩ : ∃ p, l[q]? = some p := ⟨_, List.getElem?_eq_getElem (by rw [HLL.out]; omega)⟩
            have HQ : Hid (l[q]? = some p' ∧ byteX p' ∧ subX S0 p' = S2) := ⟨hp', HB.out p' (List.mem_of_getElem? hp'), by rw [← gl_in hp', ← hq]; exact HOUT.out⟩
            clear hp'
            clear HIN HOUT
            go_wp2_with (first
              | (go_at_call 95; with_reducible refine Calls.mono (mean_v w.heap.size 0 S0 r _ HS.out.u hr HU.out.2.2.2) ?_; rintro e w2 ⟨rfl, hb⟩; have HS2 := hid (HS.out.below hb); clear hb; obtain ⟨u0, u1, u2, u3, e0, e1, e2, e3, f0, f1, f2, f3⟩ := HS2.out.four (m := m) (by omega); have HS3 := hid ((HS2.out.re (M' := (m : Int)) (by omega)).pix (by omega) (HMN.out m hm)); obtain ⟨-, t0, t1, t2, t3⟩ := vx_at HS3.out.v HQ.out.1)
              | (go_at_call 96; with_reducible refine Calls.mono (take_any w.heap.size 0 S0 p' _ HS3.out.u (by rw [HQ.out.2.2]; exact HU.out.2.2.1) HQ.out.2.1) ?_; rintro e w4 ⟨rfl, hu, hc⟩; rw [HQ.out.2.2] at hu; have HS4 := hid (HS3.out.sum hu hc); clear hu hc))
            go_roundg (T - (i + 1))
            case measure => omega
            case rel => exact ⟨i + 1, by omega, rfl, by simp, (by rw [← HE.out]; exact HS4.out.re (by omega))⟩
          · have h3z : ¬ (q : Int) < (n : Int) := by omega
            have E1 : S0 = S1 := by have := HIN.out; rw [gl_out (by rw [HLL.out]; omega), add_no] at this; exact this
            subst E1
            have E2 : Hid (S0 = S2) := by have := HOUT.out; rw [gl_out (by rw [HLL.out]; omega), sub_no] at this; exact this
            clear HIN HOUT
            go_wp2_with (first
              | (go_at_call 95; with_reducible refine Calls.mono (mean_v w.heap.size 0 S0 r _ HS.out.u hr HU.out.2.2.2) ?_; rintro e w2 ⟨rfl, hb⟩; have HS2 := hid (HS.out.below hb); clear hb; obtain ⟨u0, u1, u2, u3, e0, e1, e2, e3, f0, f1, f2, f3⟩ := HS2.out.four (m := m) (by omega); have HS3 := hid ((HS2.out.re (M' := (m : Int)) (by omega)).pix (by omega) (HMN.out m hm))))
            go_roundg (T - (i + 1))
            case measure => omega
            case rel => exact ⟨i + 1, by omega, rfl, by simp, (by rw [← HE.out, ← E2.out]; exact HS3.out.re (by omega))⟩
        · have hbz : ¬ (0 : Int) ≤ (i : Int) - (r : Int) - lead := hbm
          have h2z : ¬ (0 : Int) ≤ (i : Int) - 2 * (r : Int) := by omega
          have E1 : S0 = S1 := by have := HIN.out; rw [gl_out (by rw [HLL.out]; omega), add_no] at this; exact this
          subst E1
          have E2 : Hid (S0 = S2) := by have := HOUT.out; rw [gl_out (by rw [HLL.out]; omega), sub_no] at this; exact this
          clear HIN HOUT
          go_wp2
          go_roundg (T - (i + 1))
          case measure => omega
          case rel => exact ⟨i + 1, by omega, rfl, by simp, (by rw [← HE.out, ← E2.out]; exact HS.out.re (by omega))⟩
    · obtain rfl : T = i := by omega
      go_wp2
      refine bodyPost_end (v := .tuple #[]) (by simp [results, Try.results86, go_sem]) rfl ⟨rfl, hS.c, ?_⟩
      have := hS.d
      rwa [show (T : Int) - (r : Int) - lead = (K : Int) by omega] at this
end Go.Proofs.Ytfgfgfmimejpdaa
