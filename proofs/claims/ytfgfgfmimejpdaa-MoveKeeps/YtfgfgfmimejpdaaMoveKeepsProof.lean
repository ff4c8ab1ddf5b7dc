/- What is handed in stays, whatever is written into what was answered; no condition. -/
import Derived.Test.YtfgfgfmimejpdaaRows
import Derived.WalkKit
import Derived.ProofKit
import Derived.OpenShut
import Derived.Test.YtfgfgfmimejpdaaOpen
import Derived.Test.YtfgfgfmimejpdaaLawS
import Derived.Test.YtfgfgfmimejpdaaMgKeeps
import Derived.Test.YtfgfgfmimejpdaaWins
import Derived.Test.YtfgfgfmimejpdaaMoves1
import Derived.Test.YtfgfgfmimejpdaaCopied
import Derived.Deep.DeepCutAuto
import Derived.Deep.LoopGhost
import Derived.Deep.Light
namespace Go.Proofs.Ytfgfgfmimejpdaa.moveKeeps
open Go.ChangeShapes Go.WideShapes Go.ChangeAt Go.RowKit Num
set_option linter.unusedVariables false
set_option linter.unusedSimpArgs false
attribute [local go_sem ↓] run_app
attribute [local go_sem] lenV_slice
/-- what is handed in stands -/
structure Kz (W : World) (B : R) (ao : Option Addr) (n m : Nat) (D : R) (w : World) : Prop where
  b : Has5 w W.heap.size B ao n m
  d : Rc.Has4 w (W.heap.size + 1) (.int .i64 D.x0) (.int .i64 D.y0) (.int .i64 D.x1) (.int .i64 D.y1)
  low : Below W.heap.size W w
  sz : W.heap.size + 1 + 1 ≤ w.heap.size
theorem Kz.below {W : World} {B : R} {ao : Option Addr} {n m : Nat} {D : R} {w w' : World} (x : Kz W B ao n m D w) (hb : Below w.heap.size w w') : Kz W B ao n m D w' := ⟨x.b.below hb, x.d.below hb, x.low.trans (hb.mono x.low.size), Nat.le_trans x.sz hb.size⟩
theorem Kz.but {W : World} {B : R} {ao : Option Addr} {n m : Nat} {D : R} {w w' : World} (x : Kz W B ao n m D w) {j : Nat} (hb : But j w w') (hj : W.heap.size + 1 + 1 ≤ j) : Kz W B ao n m D w' := ⟨x.b.but hb (by omega), has4_but x.d hb (by omega), x.low.trans (hb.low (by omega) x.low.size), Nat.le_trans x.sz hb.size⟩
theorem kz_new (W : World) (B : R) (ao : Option Addr) (n m : Nat) (D : R) : Kz W B ao n m D (((W.alloc (.cells #[.int .i64 B.x0, .int .i64 B.y0, .int .i64 B.x1, .int .i64 B.y1, .slice ao n m] 26)).alloc (.cells #[.int .i64 D.x0, .int .i64 D.y0, .int .i64 D.x1, .int .i64 D.y1] 23))) := ⟨(Has5.new rfl _ _ _ _ _ _ _ _).alloc _, Rc.Has4.new (by simp) _ _ _ _ _, (((Below.refl _ _).alloc (Nat.le_refl _) _).alloc (by simp) _), by simp⟩
theorem gb_of {w : World} {v : Bv} (h : Vx w v.ao v.n v.m v.g v.off v.l) (hp : ∀ p, p ∈ v.l → byteX p) (hr : rightT v.B v.n v.l = true) : Gb v := by
  have G := gd_of h hp hr
  exact ⟨by have := G.n3; omega, G.buf, G.im, G.byt, G.ok⟩
theorem ox_at4 {lo : Nat} {w : World} {ao : Option Addr} {n m g off : Nat} {l : List X} (h : Ox lo w ao n m g off l) {i : Nat} (hi : i < n) : ∃ u0 u1 u2 u3, w.cell? ⟨g, off + i * 4, none⟩ = some u0 ∧ w.cell? ⟨g, off + i * 4 + 1, none⟩ = some u1 ∧ w.cell? ⟨g, off + i * 4 + 2, none⟩ = some u2 ∧ w.cell? ⟨g, off + i * 4 + 3, none⟩ = some u3 ∧
    w.frozen? ⟨g, off + i * 4, none⟩ = false ∧ w.frozen? ⟨g, off + i * 4 + 1, none⟩ = false ∧ w.frozen? ⟨g, off + i * 4 + 2, none⟩ = false ∧ w.frozen? ⟨g, off + i * 4 + 3, none⟩ = false := by
  have := ox_four h (q := 0) (i := i) (by omega)
  rw [show off + 0 * 4 + i * 4 = off + i * 4 by omega] at this
  exact this
theorem s5c_alloc {k : Nat} {Q : R} {v : Value} {w1 : World} {o : Obj} (h : S5c k Q v w1) : S5c k Q v (w1.alloc o) := s5c_below h ((Below.refl _ _).alloc (Nat.le_refl _) _)
theorem s5c_set5 {k j : Nat} {Q : R} {v : Value} {w1 : World} {v0 v1 v2 v3 v4 : Value} (h : S5c k Q v w1) (hj : k ≠ j) : S5c k Q v (((((w1.setCell ⟨j, 0, none⟩ v0).setCell ⟨j, 1, none⟩ v1).setCell ⟨j, 2, none⟩ v2).setCell ⟨j, 3, none⟩ v3).setCell ⟨j, 4, none⟩ v4) := by
  have hb := but_set5 w1 j v0 v1 v2 v3 v4
  obtain ⟨c0, c1, c2, c3, c4⟩ := h
  have e1 := fun o => World.cell?_of_block (a := ⟨k, o, none⟩) (hb.block k (World.block_lt_of_cell? w1 ⟨k, 0, none⟩ c0) hj)
  exact ⟨by rw [e1]; exact c0, by rw [e1]; exact c1, by rw [e1]; exact c2, by rw [e1]; exact c3, by rw [e1]; exact c4⟩

/-- buffers that were answered, each in memory of its own -/
structure Fam (lo : Nat) (w : World) (L : List Bv) : Prop where
  own : ∀ v, v ∈ L → ∃ l, Ox lo w v.ao v.n v.m v.g v.off l
  lt : ∀ v, v ∈ L → 0 < v.m → v.g < w.heap.size
  diff : ∀ (i j : Nat) (u v : Bv), i ≠ j → L[i]? = some u → L[j]? = some v → 0 < u.m → 0 < v.m → u.g ≠ v.g
theorem fam_nil (lo : Nat) (w : World) : Fam lo w [] := ⟨fun _ h => absurd h (by simp), fun _ h => absurd h (by simp), fun _ _ _ _ _ h => absurd h (by simp)⟩
theorem Fam.below {lo : Nat} {w w' : World} {L : List Bv} (h : Fam lo w L) (hb : Below w.heap.size w w') : Fam lo w' L :=
  ⟨fun v hv => by obtain ⟨l, hl⟩ := h.own v hv; exact ⟨l, hl.below hb⟩, fun v hv hm => Nat.lt_of_lt_of_le (h.lt v hv hm) hb.size, h.diff⟩
theorem fam_add {lo : Nat} {w w' : World} {L : List Bv} (h : Fam lo w L) (hb : Below w.heap.size w w') (hlo : lo ≤ w.heap.size) {v : Bv} {l : List X} (hO : Ox w.heap.size w' v.ao v.n v.m v.g v.off l) (h1 : w.heap.size ≤ v.g) (h2 : 0 < v.m → v.g < w'.heap.size) : Fam lo w' (L ++ [v]) := by
  have hF := h.below hb
  have hm : ∀ u, u ∈ L ++ [v] → u ∈ L ∨ u = v := fun u hu => by simpa using hu
  have hg : ∀ (i : Nat) (u : Bv), (L ++ [v])[i]? = some u → (i < L.length ∧ L[i]? = some u) ∨ (i = L.length ∧ u = v) := by
    intro i u hu
    have hi := (List.getElem?_eq_some_iff.1 hu).1
    rw [List.length_append, List.length_singleton] at hi
    by_cases hl : i < L.length
    · rw [List.getElem?_append_left hl] at hu
      exact Or.inl ⟨hl, hu⟩
    · obtain rfl : i = L.length := by omega
      rw [List.getElem?_append_right (Nat.le_refl _)] at hu
      simp at hu
      exact Or.inr ⟨rfl, hu.symm⟩
  refine ⟨fun u hu => ?_, fun u hu hum => ?_, fun i j a b hij ha hb' ham hbm => ?_⟩
  · rcases hm u hu with hu | rfl
    · exact hF.own u hu
    · exact ⟨l, hO.mono hlo⟩
  · rcases hm u hu with hu | rfl
    · exact hF.lt u hu hum
    · exact h2 hum
  · rcases hg i a ha with ⟨hi, ka⟩ | ⟨hi, ka⟩ <;> rcases hg j b hb' with ⟨hj, kb⟩ | ⟨hj, kb⟩
    · exact hF.diff i j a b hij ka kb ham hbm
    · have := h.lt a (List.mem_of_getElem? ka) ham
      rw [kb]
      omega
    · have := h.lt b (List.mem_of_getElem? kb) hbm
      rw [ka]
      omega
    · omega
/-- the list of them -/
structure Tri (lo : Nat) (w : World) (kl ol : Nat) (L : List Bv) : Prop where
  z : Vz 5 w (some ⟨kl, ol, none⟩) 3 3 kl ol (flatB L)
  own : ∀ v, v ∈ L → ∃ l, Ox lo w v.ao v.n v.m v.g v.off l
  far : ∀ v, v ∈ L → 0 < v.m → kl ≠ v.g
  diff : ∀ (i j : Nat) (u v : Bv), i ≠ j → L[i]? = some u → L[j]? = some v → 0 < u.m → 0 < v.m → u.g ≠ v.g
theorem Tri.below {lo : Nat} {w w' : World} {kl ol : Nat} {L : List Bv} (h : Tri lo w kl ol L) (hb : Below w.heap.size w w') : Tri lo w' kl ol L :=
  ⟨h.z.below hb, fun v hv => by obtain ⟨l, hl⟩ := h.own v hv; exact ⟨l, hl.below hb⟩, h.far, h.diff⟩
theorem tri_len {lo : Nat} {w : World} {kl ol : Nat} {L : List Bv} (h : Tri lo w kl ol L) : L.length = 3 := by have := h.z.len; rw [flatB_len] at this; omega
theorem tri_at {lo : Nat} {w : World} {kl ol : Nat} {L : List Bv} (h : Tri lo w kl ol L) {i : Nat} {vB : R} {vo : Option Addr} {vn vm vg vf : Nat} {vl : List X} (hi : L[i]? = some ⟨vB, vo, vn, vm, vg, vf, vl⟩) :
    (w.cell? ⟨kl, ol + i * 5, none⟩ = some (.int .i64 vB.x0) ∧ w.cell? ⟨kl, ol + i * 5 + 1, none⟩ = some (.int .i64 vB.y0) ∧ w.cell? ⟨kl, ol + i * 5 + 2, none⟩ = some (.int .i64 vB.x1) ∧ w.cell? ⟨kl, ol + i * 5 + 3, none⟩ = some (.int .i64 vB.y1) ∧ w.cell? ⟨kl, ol + i * 5 + 4, none⟩ = some (.slice vo vn vm)) ∧ ∃ l, Ox lo w vo vn vm vg vf l := by
  obtain ⟨e0, e1, e2, e3, e4⟩ := flatB_at hi
  exact ⟨⟨h.z.lies _ _ e0, h.z.lies _ _ e1, h.z.lies _ _ e2, h.z.lies _ _ e3, h.z.lies _ _ e4⟩, h.own _ (List.mem_of_getElem? hi)⟩
theorem Tri.put {lo : Nat} {w w' : World} {kl ol : Nat} {L : List Bv} (h : Tri lo w kl ol L) {i : Nat} {v : Bv} (hi : L[i]? = some v) (hm : 0 < v.m) (hb : But v.g w w') {l : List X} (hO : Ox lo w' v.ao v.n v.m v.g v.off l) : Tri lo w' kl ol L := by
  refine ⟨h.z.but hb (h.far v (List.mem_of_getElem? hi) hm), fun u hu => ?_, h.far, h.diff⟩
  obtain ⟨j, hj⟩ := List.getElem?_of_mem hu
  by_cases hij : j = i
  · subst hij
    rw [hi] at hj
    obtain rfl := Option.some.inj hj
    exact ⟨l, hO⟩
  · obtain ⟨l', hl'⟩ := h.own u hu
    exact ⟨l', hl'.but hb (fun hc => h.diff j i u v hij hj hi hc hm)⟩
/-- what is handed in stands, from a world on -/
structure Kq (W : World) (B : R) (ao : Option Addr) (n m : Nat) (D : R) (w1 w : World) : Prop where
  x : Kz W B ao n m D w
  b : Below w1.heap.size w1 w
theorem Kq.but {W : World} {B : R} {ao : Option Addr} {n m : Nat} {D : R} {w1 w w' : World} {j : Nat} (h : Kq W B ao n m D w1 w) (hb : But j w w') (hz : W.heap.size + 1 + 1 ≤ w1.heap.size) (hj : w1.heap.size ≤ j) : Kq W B ao n m D w1 w' := ⟨h.x.but hb (Nat.le_trans hz hj), h.b.trans (hb.low hj h.b.size)⟩
theorem Kq.below {W : World} {B : R} {ao : Option Addr} {n m : Nat} {D : R} {w1 w w' : World} (h : Kq W B ao n m D w1 w) (hb : Below w.heap.size w w') : Kq W B ao n m D w1 w' := ⟨h.x.below hb, h.b.trans (hb.mono h.b.size)⟩
theorem tri_new {lo : Nat} {w : World} {a b c : R} {co eo uo : Option Addr} {cn cm cg cf en em eg ef un um ug uf : Nat} (h : Fam lo w ([] ++ [(⟨a, co, cn, cm, cg, cf, []⟩ : Bv)] ++ [(⟨b, eo, en, em, eg, ef, []⟩ : Bv)] ++ [(⟨c, uo, un, um, ug, uf, []⟩ : Bv)])) :
    Tri lo (w.alloc (.cells #[.int .i64 a.x0, .int .i64 a.y0, .int .i64 a.x1, .int .i64 a.y1, .slice co cn cm, .int .i64 b.x0, .int .i64 b.y0, .int .i64 b.x1, .int .i64 b.y1, .slice eo en em, .int .i64 c.x0, .int .i64 c.y0, .int .i64 c.x1, .int .i64 c.y1, .slice uo un um] 26)) w.heap.size 0 [(⟨a, co, cn, cm, cg, cf, []⟩ : Bv), (⟨b, eo, en, em, eg, ef, []⟩ : Bv), (⟨c, uo, un, um, ug, uf, []⟩ : Bv)] := by
  have h' : Fam lo w [(⟨a, co, cn, cm, cg, cf, []⟩ : Bv), (⟨b, eo, en, em, eg, ef, []⟩ : Bv), (⟨c, uo, un, um, ug, uf, []⟩ : Bv)] := h
  have hb := (Below.refl w.heap.size w).alloc (Nat.le_refl _) (.cells #[.int .i64 a.x0, .int .i64 a.y0, .int .i64 a.x1, .int .i64 a.y1, .slice co cn cm, .int .i64 b.x0, .int .i64 b.y0, .int .i64 b.x1, .int .i64 b.y1, .slice eo en em, .int .i64 c.x0, .int .i64 c.y0, .int .i64 c.x1, .int .i64 c.y1, .slice uo un um] 26)
  refine ⟨⟨rfl, Nat.le_refl _, by simp only [maxLen]; omega, fun _ => rfl, fun j u hu => ?_⟩, (h'.below hb).own, fun v hv hm => Nat.ne_of_gt (h'.lt v hv hm), h'.diff⟩
  rw [Nat.zero_add, World.cell?_alloc_new, ← hu, List.getElem?_toArray]
  rfl
theorem vb_one {w : World} {B : R} {ao : Option Addr} {n m g off : Nat} {l : List X} (h : Vx w ao n m g off l) : Vb (w.alloc (.cells #[.int .i64 B.x0, .int .i64 B.y0, .int .i64 B.x1, .int .i64 B.y1, .slice ao n m] 26)) (some ⟨w.heap.size, 0, none⟩) 1 1 w.heap.size 0 [⟨B, ao, n, m, g, off, l⟩] := by
  have h5 := Has5.new (W := w) rfl B.x0 B.y0 B.x1 B.y1 ao n m 26
  refine ⟨⟨rfl, Nat.le_refl _, by simp [maxLen], fun _ => rfl, liesB_of fun i v hi => ?_⟩, fun v hv => ?_⟩
  · match i, hi with
    | 0, hi =>
      simp at hi
      subst hi
      exact ⟨h5.c0, h5.c1, h5.c2, h5.c3, h5.c4⟩
    | i + 1, hi => simp at hi
  · simp at hv
    subst hv
    exact h.below ((Below.refl _ _).alloc (Nat.le_refl _) _)

set_option maxRecDepth 100000 in
set_option maxHeartbeats 8000000 in
theorem walk (B : R) (ao : Option Addr) (n m g off : Nat) (l : List X) (D : R) (W : World) (h : Vx W ao n m g off l) (hp : ∀ p, p ∈ l → byteX p) :
    Calls Try.prog 8 #[.agg #[.int .i64 B.x0, .int .i64 B.y0, .int .i64 B.x1, .int .i64 B.y1, .slice ao n m], .agg #[.int .i64 D.x0, .int .i64 D.y0, .int .i64 D.x1, .int .i64 D.y1]] W fun e w' => e = .returned (.bool true) ∧ Below W.heap.size W w' := by
  have hn := vx_small h
  have HV := hid h
  have HX : Hid (Kz W B ao n m D (((W.alloc (.cells #[.int .i64 B.x0, .int .i64 B.y0, .int .i64 B.x1, .int .i64 B.y1, .slice ao n m] 26)).alloc (.cells #[.int .i64 D.x0, .int .i64 D.y0, .int .i64 D.x1, .int .i64 D.y1] 23)))) := kz_new W B ao n m D
  obtain ⟨b0, b1, b2, b3, b4, bf⟩ := HX.out.b; obtain ⟨d0, d1, d2, d3, df⟩ := HX.out.d
  rcases h1 : rightT B n l with _ | _
  · have HR : Hid (rightT B n l = false ∧ True) := hid ⟨h1, trivial⟩
    clear h1 h hp
    go_enter Try.func8, Try.ntmps8
    go_wp2_with (first
      | (go_at_call 9; with_reducible refine Calls.mono (awake_any _) ?_; rintro e wc ⟨rfl, hb⟩; replace HX := hid (HX.out.below hb); clear hb; clear b0 b1 b2 b3 b4 bf d0 d1 d2 d3 df; obtain ⟨b0, b1, b2, b3, b4, bf⟩ := HX.out.b; obtain ⟨d0, d1, d2, d3, df⟩ := HX.out.d)
      | (go_at_call 10; with_reducible refine Calls.mono (right10_any B ao n m g off _ _ (HV.out.below HX.out.low)) ?_; rintro e wc ⟨rfl, hb⟩; rw [HR.out.1]; replace HX := hid (HX.out.below hb); clear hb; clear b0 b1 b2 b3 b4 bf d0 d1 d2 d3 df; obtain ⟨b0, b1, b2, b3, b4, bf⟩ := HX.out.b; obtain ⟨d0, d1, d2, d3, df⟩ := HX.out.d)
      | (go_at_call 11; with_reducible refine Calls.mono (box_law D _) ?_; rintro e wc ⟨rfl, hb⟩; rw [HR.out.2]; replace HX := hid (HX.out.below hb); clear hb; clear b0 b1 b2 b3 b4 bf d0 d1 d2 d3 df; obtain ⟨b0, b1, b2, b3, b4, bf⟩ := HX.out.b; obtain ⟨d0, d1, d2, d3, df⟩ := HX.out.d))
    go_ret
    exact ⟨rfl, HX.out.low⟩
  rcases h2 : fineF D 0 0 400 with _ | _
  · have HR := hid (And.intro h1 h2)
    clear h1 h2 h hp
    go_enter Try.func8, Try.ntmps8
    go_wp2_with (first
      | (go_at_call 9; with_reducible refine Calls.mono (awake_any _) ?_; rintro e wc ⟨rfl, hb⟩; replace HX := hid (HX.out.below hb); clear hb; clear b0 b1 b2 b3 b4 bf d0 d1 d2 d3 df; obtain ⟨b0, b1, b2, b3, b4, bf⟩ := HX.out.b; obtain ⟨d0, d1, d2, d3, df⟩ := HX.out.d)
      | (go_at_call 10; with_reducible refine Calls.mono (right10_any B ao n m g off _ _ (HV.out.below HX.out.low)) ?_; rintro e wc ⟨rfl, hb⟩; rw [HR.out.1]; replace HX := hid (HX.out.below hb); clear hb; clear b0 b1 b2 b3 b4 bf d0 d1 d2 d3 df; obtain ⟨b0, b1, b2, b3, b4, bf⟩ := HX.out.b; obtain ⟨d0, d1, d2, d3, df⟩ := HX.out.d)
      | (go_at_call 11; with_reducible refine Calls.mono (box_law D _) ?_; rintro e wc ⟨rfl, hb⟩; rw [HR.out.2]; replace HX := hid (HX.out.below hb); clear hb; clear b0 b1 b2 b3 b4 bf d0 d1 d2 d3 df; obtain ⟨b0, b1, b2, b3, b4, bf⟩ := HX.out.b; obtain ⟨d0, d1, d2, d3, df⟩ := HX.out.d))
    go_ret
    exact ⟨rfl, HX.out.low⟩
  have HR := hid (And.intro h1 h2)
  have hG := gb_of (v := ⟨B, ao, n, m, g, off, l⟩) h hp h1
  have hGd := gd_of h hp h1
  obtain ⟨f, hf⟩ : ∃ f, f = unimg B l := ⟨_, rfl⟩
  have e1 : l = img B (unimg B l) := hG.im
  rw [← hf] at e1
  have HU : Hid (n ≤ 5000 ∧ bufB B n = true ∧ Ok D ∧ area D ≤ 5000 ∧ ∀ v, v ∈ [(⟨B, ao, n, m, g, off, l⟩ : Bv)] → Gb v) := hid ⟨hG.n5, hG.buf, (fine_area h2).1.ok, by have := (fine_area h2).2; omega, fun v hv => by simp at hv; rw [hv]; exact hG⟩
  have hn5 : n ≤ 5000 := hG.n5
  clear h1 h2 hG hGd h hp
  rw [e1] at HV HU HR
  clear e1 hf
  go_enter Try.func8, Try.ntmps8
  go_upto_region 3 with (first
      | (go_at_call 9; with_reducible refine Calls.mono (awake_any _) ?_; rintro e wc ⟨rfl, hb⟩; replace HX := hid (HX.out.below hb); clear hb; clear b0 b1 b2 b3 b4 bf d0 d1 d2 d3 df; obtain ⟨b0, b1, b2, b3, b4, bf⟩ := HX.out.b; obtain ⟨d0, d1, d2, d3, df⟩ := HX.out.d)
      | (go_at_call 10; with_reducible refine Calls.mono (right10_any B ao n m g off _ _ (HV.out.below HX.out.low)) ?_; rintro e wc ⟨rfl, hb⟩; rw [HR.out.1]; replace HX := hid (HX.out.below hb); clear hb; clear b0 b1 b2 b3 b4 bf d0 d1 d2 d3 df; obtain ⟨b0, b1, b2, b3, b4, bf⟩ := HX.out.b; obtain ⟨d0, d1, d2, d3, df⟩ := HX.out.d)
      | (go_at_call 11; with_reducible refine Calls.mono (box_law D _) ?_; rintro e wc ⟨rfl, hb⟩; rw [HR.out.2]; replace HX := hid (HX.out.below hb); clear hb; clear b0 b1 b2 b3 b4 bf d0 d1 d2 d3 df; obtain ⟨b0, b1, b2, b3, b4, bf⟩ := HX.out.b; obtain ⟨d0, d1, d2, d3, df⟩ := HX.out.d))
  have HXd := hid (HX.out.below (Below.refl _ _).drew)
  obtain ⟨XA, hXA⟩ : ∃ X, X = (wc.alloc (.cells #[] 28)).drew := ⟨_, rfl⟩
  obtain ⟨XB, hXB⟩ : ∃ X, X = ((wc.alloc (.cells #[.int .i64 0, .int .i64 0, .int .i64 0, .int .i64 0, .slice none 0 0] 26)).alloc (.cells #[] 28)).drew := ⟨_, rfl⟩
  obtain ⟨XC, hXC⟩ : ∃ X, X = ((wc.alloc (.cells #[] 28)).alloc (.cells #[.int .i64 0, .int .i64 0, .int .i64 0, .int .i64 0, .slice none 0 0] 26)).drew := ⟨_, rfl⟩
  have hA0 : Below wc.heap.size wc XA := by rw [hXA]; exact ((Below.refl _ _).alloc (Nat.le_refl _) _).drew
  have hB0 : Below wc.heap.size wc XB ∧ Has5 XB wc.heap.size ⟨0, 0, 0, 0⟩ none 0 0 := by rw [hXB]; exact ⟨(((Below.refl _ _).alloc (Nat.le_refl _) _).alloc (by simp) _).drew, ((Has5.new rfl _ _ _ _ _ _ _ _).alloc _).below (Below.refl _ _).drew⟩
  have hC0 : Below wc.heap.size wc XC ∧ Has5 XC (wc.heap.size + 1) ⟨0, 0, 0, 0⟩ none 0 0 := by rw [hXC]; exact ⟨(((Below.refl _ _).alloc (Nat.le_refl _) _).alloc (by simp) _).drew, (Has5.new (by simp) _ _ _ _ _ _ _ _).below (Below.refl _ _).drew⟩
  obtain ⟨ga, oa, hAa⟩ := app_own (sz := 4) (B := XA.heap.size) (w := XA) (ao := some ⟨wc.heap.size, 0, none⟩) (oz_nil 4 _ _ _) (Nat.le_refl _) 24 24 24 28 _ 4 Try.underlying24 info28 rfl (.slice ao n m) n (flat (img B f)) (src_px ((HV.out.below HX.out.low).below hA0)) (by simp only [maxLen]; omega) (by omega)
  obtain ⟨gb, ob, hAb⟩ := app_own (sz := 4) (B := XB.heap.size) (w := XB) (ao := some ⟨wc.heap.size + 1, 0, none⟩) (oz_nil 4 _ _ _) (Nat.le_refl _) 24 24 24 28 _ 4 Try.underlying24 info28 rfl (.slice ao n m) n (flat (img B f)) (src_px ((HV.out.below HX.out.low).below hB0.1)) (by simp only [maxLen]; omega) (by omega)
  obtain ⟨gc, oc, hAc⟩ := app_own (sz := 4) (B := XC.heap.size) (w := XC) (ao := some ⟨wc.heap.size, 0, none⟩) (oz_nil 4 _ _ _) (Nat.le_refl _) 24 24 24 28 _ 4 Try.underlying24 info28 rfl (.slice ao n m) n (flat (img B f)) (src_px ((HV.out.below HX.out.low).below hC0.1)) (by simp only [maxLen]; omega) (by omega)
  have fA := hAa.fine
  have fB := hAb.fine
  have fC := hAc.fine
  have bA := hAa.below
  have bB := hAb.below
  have bC := hAc.below
  have oA := hAa.own
  have oB := hAb.own
  have oC := hAc.own
  rw [Nat.zero_add] at fA fB fC oA oB oC
  rw [List.nil_append] at oA oB oC
  obtain ⟨yb0, yb1, yb2, yb3, yb4, ybf⟩ := hB0.2.below bB
  obtain ⟨yc0, yc1, yc2, yc3, yc4, ycf⟩ := hC0.2.below bC
  have HOA := hid (And.intro oA (And.intro hA0 bA))
  have HOB := hid (And.intro oB (And.intro hB0 bB))
  have HOC := hid (And.intro oC (And.intro hC0 bC))
  have hSs : S5c W.heap.size B (.slice ao n m) wc := s5c_of HX.out.b
  clear hAa hAb hAc oA oB oC
  subst hXA
  subst hXB
  subst hXC
  go_cut [5] (fun v5 wx => ∃ kq qo qm qg qoff, v5 = .pointer (some ⟨kq, 0, none⟩) ∧ wc.heap.size ≤ kq ∧ Has5 wx kq B qo n qm ∧ Vx wx qo n qm qg qoff (img B f) ∧ Below wc.heap.size wc wx)
  case first =>
    clear b0 b1 b2 b3 b4 bf d0 d1 d2 d3 df
    go_region_held3 (fun w' => w'.cell? ⟨W.heap.size, 0, none⟩ = some (.int .i64 B.x0) ∧ w'.cell? ⟨W.heap.size, 1, none⟩ = some (.int .i64 B.y0) ∧ w'.cell? ⟨W.heap.size, 2, none⟩ = some (.int .i64 B.x1) ∧ w'.cell? ⟨W.heap.size, 3, none⟩ = some (.int .i64 B.y1) ∧ w'.cell? ⟨W.heap.size, 4, none⟩ = some (.slice ao n m)) (repeat (first | with_reducible assumption | with_reducible refine s5c_drew ?_ | with_reducible refine s5c_alloc ?_ | with_reducible refine s5c_set5 ?_ (by have := HX.out.sz; omega) | with_reducible refine s5c_below ?_ ‹_›)) (fail)
    all_goals
      go_wp2_with fail
      go_meet
    case rel => exact ⟨_, _, _, ga, oa, rfl, Nat.le_trans HOA.out.2.1.size HOA.out.2.2.size, Has5.new rfl B.x0 B.y0 B.x1 B.y1 _ n _ 26, HOA.out.1.v.below ((Below.refl _ _).alloc (Nat.le_refl _) _), (Rc.via HOA.out.2.1 HOA.out.2.2).alloc (Rc.via HOA.out.2.1 HOA.out.2.2).size _⟩
    case rel => exact ⟨_, _, _, gc, oc, rfl, Nat.le_succ _, has5_set (HOC.out.2.1.2.below HOC.out.2.2) B.x0 B.y0 B.x1 B.y1 _ n _, (HOC.out.1.but (but_set5 _ _ _ _ _ _ _) (fun hc => Nat.ne_of_gt (Nat.lt_of_lt_of_le HOC.out.2.1.2.lt (HOC.out.1.new hc).1))).v, below_set5 (Rc.via HOC.out.2.1.1 HOC.out.2.2) (Nat.le_succ _) _ _ _ _ _⟩
    case rel => exact ⟨_, _, _, gb, ob, rfl, Nat.le_refl _, has5_set (HOB.out.2.1.2.below HOB.out.2.2) B.x0 B.y0 B.x1 B.y1 _ n _, (HOB.out.1.but (but_set5 _ _ _ _ _ _ _) (fun hc => Nat.ne_of_gt (Nat.lt_of_lt_of_le HOB.out.2.1.2.lt (HOB.out.1.new hc).1))).v, below_set5 (Rc.via HOB.out.2.1.1 HOB.out.2.2) (Nat.le_refl _) _ _ _ _ _⟩
  case rest =>
    obtain ⟨kq, qo, qm, qg, qoff, rfl, hkq, hQ5, hQV, hQB⟩ := hcut
    obtain ⟨w1, rfl⟩ : ∃ w1, w1 = wc := ⟨_, rfl⟩
    rename_i w0
    have HX1 := hid (HX.out.below hQB)
    have HQ := hid (And.intro hQ5 hQV)
    clear fA fB fC bA bB bC yb0 yb1 yb2 yb3 yb4 ybf yc0 yc1 yc2 yc3 yc4 ycf hA0 hB0 hC0 hSs HXd HOA HOB HOC
    clear b0 b1 b2 b3 b4 bf d0 d1 d2 d3 df
    clear hQ5 hQV hQB hkq HX
    replace HX : Hid (Kq W B ao n m D w1 w1) := hid ⟨HX1.out, Below.refl _ _⟩
    have HF : Hid (Fam w1.heap.size w1 []) := hid (fam_nil _ _)
    go_wp2
    go_cut [6] (fun v6 wx => ∃ kl ol L, v6 = .slice (some ⟨kl, ol, none⟩) 3 3 ∧ Kq W B ao n m D w1 wx ∧ Tri w1.heap.size wx kl ol L)
    case first =>
      replace HX := hid (HX.out.below (Below.refl _ _).drew)
      replace HF := hid (HF.out.below (Below.refl _ _).drew)
      refine wp_region_held_drew (S := (fun w' => w'.cell? ⟨W.heap.size, 0, none⟩ = some (.int .i64 B.x0) ∧ w'.cell? ⟨W.heap.size, 1, none⟩ = some (.int .i64 B.y0) ∧ w'.cell? ⟨W.heap.size, 2, none⟩ = some (.int .i64 B.x1) ∧ w'.cell? ⟨W.heap.size, 3, none⟩ = some (.int .i64 B.y1) ∧ w'.cell? ⟨W.heap.size, 4, none⟩ = some (.slice ao n m) ∧ w'.cell? ⟨(W.heap.size + 1), 0, none⟩ = some (.int .i64 D.x0) ∧ w'.cell? ⟨(W.heap.size + 1), 1, none⟩ = some (.int .i64 D.y0) ∧ w'.cell? ⟨(W.heap.size + 1), 2, none⟩ = some (.int .i64 D.x1) ∧ w'.cell? ⟨(W.heap.size + 1), 3, none⟩ = some (.int .i64 D.y1))) (by kernel_rfl) ?_ (fun hHeld => ?_)
      · exact ⟨HX.out.x.b.c0, HX.out.x.b.c1, HX.out.x.b.c2, HX.out.x.b.c3, HX.out.x.b.c4, HX.out.x.d.c0, HX.out.x.d.c1, HX.out.x.d.c2, HX.out.x.d.c3⟩
      generalize w1.drew = wd at HX HF hHeld ⊢
      refine wpAnyH_take (i := 0) (oi := { dst := some 29, op := Op.load 26 (Operand.tmp 2), type := 26, pos := "law.go:116", after := #[], guard := none }) (v := ?_) rfl (by kernel_rfl) (by kernel_rfl) (by kernel_rfl) (fun _ _ _ h => h) (Or.inl ⟨by rfl, ?hy⟩) (by assumption) ?_
      case hy => (intro w hSw; (try dsimp only at hSw); go_simp; first | done | with_reducible rfl)
      try simp only [Act.put, List.setIfInBounds_toArray, List.set_cons_zero, List.set_cons_succ]
      refine wpAnyH_take (i := 1) (oi := { dst := some 30, op := Op.load 23 (Operand.tmp 3), type := 23, pos := "law.go:116", after := #[], guard := none }) (v := ?_) rfl (by kernel_rfl) (by kernel_rfl) (by kernel_rfl) (fun _ _ _ h => h) (Or.inl ⟨by rfl, ?hy⟩) (by assumption) ?_
      case hy => (intro w hSw; (try dsimp only at hSw); go_simp; first | done | with_reducible rfl)
      try simp only [Act.put, List.setIfInBounds_toArray, List.set_cons_zero, List.set_cons_succ]
      refine wpAnyH_take (i := 3) (oi := { dst := some 32, op := Op.load 26 (Operand.tmp 2), type := 26, pos := "law.go:116", after := #[], guard := none }) (v := ?_) rfl (by kernel_rfl) (by kernel_rfl) (by kernel_rfl) (fun _ _ _ h => h) (Or.inl ⟨by rfl, ?hy⟩) (by assumption) ?_
      case hy => (intro w hSw; (try dsimp only at hSw); go_simp; first | done | with_reducible rfl)
      try simp only [Act.put, List.setIfInBounds_toArray, List.set_cons_zero, List.set_cons_succ]
      refine wpAnyH_take (i := 4) (oi := { dst := some 33, op := Op.load 23 (Operand.tmp 3), type := 23, pos := "law.go:116", after := #[], guard := none }) (v := ?_) rfl (by kernel_rfl) (by kernel_rfl) (by kernel_rfl) (fun _ _ _ h => h) (Or.inl ⟨by rfl, ?hy⟩) (by assumption) ?_
      case hy => (intro w hSw; (try dsimp only at hSw); go_simp; first | done | with_reducible rfl)
      try simp only [Act.put, List.setIfInBounds_toArray, List.set_cons_zero, List.set_cons_succ]
      refine wpAnyH_take (i := 5) (oi := { dst := some 34, op := Op.load 23 (Operand.tmp 3), type := 23, pos := "law.go:116", after := #[], guard := none }) (v := ?_) rfl (by kernel_rfl) (by kernel_rfl) (by kernel_rfl) (fun _ _ _ h => h) (Or.inl ⟨by rfl, ?hy⟩) (by assumption) ?_
      case hy => (intro w hSw; (try dsimp only at hSw); go_simp; first | done | with_reducible rfl)
      try simp only [Act.put, List.setIfInBounds_toArray, List.set_cons_zero, List.set_cons_succ]
      refine wpAnyH_take (i := 7) (oi := { dst := some 36, op := Op.load 26 (Operand.tmp 2), type := 26, pos := "law.go:116", after := #[], guard := none }) (v := ?_) rfl (by kernel_rfl) (by kernel_rfl) (by kernel_rfl) (fun _ _ _ h => h) (Or.inl ⟨by rfl, ?hy⟩) (by assumption) ?_
      case hy => (intro w hSw; (try dsimp only at hSw); go_simp; first | done | with_reducible rfl)
      try simp only [Act.put, List.setIfInBounds_toArray, List.set_cons_zero, List.set_cons_succ]
      refine wpAnyH_take (i := 9) (oi := { dst := some 38, op := Op.load 23 (Operand.tmp 3), type := 23, pos := "law.go:116", after := #[], guard := none }) (v := ?_) rfl (by kernel_rfl) (by kernel_rfl) (by kernel_rfl) (fun _ _ _ h => h) (Or.inl ⟨by rfl, ?hy⟩) (by assumption) ?_
      case hy => (intro w hSw; (try dsimp only at hSw); go_simp; first | done | with_reducible rfl)
      try simp only [Act.put, List.setIfInBounds_toArray, List.set_cons_zero, List.set_cons_succ]
      refine wpAnyH_ready (rs := [2, 8]) (by kernel_rfl) (by simp) ?_
      refine AllReadyH.cons (o := { dst := some 31, op := Op.call { callee := Callee.value (Operand.func 20), args := #[Operand.tmp 29, Operand.tmp 30, Operand.const (Value.int IntKind.i64 0), Operand.const (Value.int IntKind.i64 0)], argTypes := #[26, 23, 3, 3] }, type := 26, pos := "law.go:116", after := #[{ on := 0, ground := Ground.data }, { on := 1, ground := Ground.data }], guard := none }) rfl (fun K hK => ?_) (AllReadyH.cons (o := { dst := some 37, op := Op.buildSlice 42 1 #[(0, Operand.tmp 36)], type := 42, pos := "law.go:116", after := #[{ on := 7, ground := Ground.data }], guard := none }) rfl (fun K hK => ?_) AllReadyH.nil)
      · go_simp
        (go_at_call 20; with_reducible refine Calls.mono (offset_any B ao n m g off f D 0 0 _ HU.out.1 HU.out.2.1 (HV.out.below HX.out.x.low) HU.out.2.2.1 HU.out.2.2.2.1 (by omega) (by omega)) ?_; rintro e wc ⟨hr, hb⟩; obtain ⟨co, cn, cm, cg, coff, rfl, hO, hg1, hg2, hln⟩ := retG hr; replace HF := hid (fam_add HF.out hb HX.out.b.size (v := ⟨orN D, co, cn, cm, cg, coff, []⟩) hO hg1 hg2); (try (replace HVB := hid (HVB.out.below hb))); replace HX := hid (HX.out.below hb); clear hr hO hg1 hg2 hln hb)
        go_wp2_with fail
        refine hK.out _ _ ?_ (fun hHeld => ?_)
        · exact ⟨HX.out.x.b.c0, HX.out.x.b.c1, HX.out.x.b.c2, HX.out.x.b.c3, HX.out.x.b.c4, HX.out.x.d.c0, HX.out.x.d.c1, HX.out.x.d.c2, HX.out.x.d.c3⟩
        clear hK K
        try simp only [Act.put, List.setIfInBounds_toArray, List.set_cons_zero, List.set_cons_succ]
        refine wpAnyH_ready (rs := [6, 8]) (by kernel_rfl) (by simp) ?_
        refine AllReadyH.cons (o := { dst := some 35, op := Op.call { callee := Callee.value (Operand.func 22), args := #[Operand.tmp 32, Operand.tmp 33, Operand.tmp 34], argTypes := #[26, 23, 23] }, type := 26, pos := "law.go:116", after := #[{ on := 3, ground := Ground.data }, { on := 4, ground := Ground.data }, { on := 5, ground := Ground.data }, { on := 2, ground := Ground.chain }], guard := none }) rfl (fun K hK => ?_) (AllReadyH.cons (o := { dst := some 37, op := Op.buildSlice 42 1 #[(0, Operand.tmp 36)], type := 42, pos := "law.go:116", after := #[{ on := 7, ground := Ground.data }], guard := none }) rfl (fun K hK => ?_) AllReadyH.nil)
        · go_simp
          (go_at_call 22; with_reducible refine Calls.mono (clip_any B ao n m g off f D D _ HU.out.1 HU.out.2.1 (HV.out.below HX.out.x.low) HU.out.2.2.1 HU.out.2.2.2.1) ?_; rintro e wc ⟨hr, hb⟩; obtain ⟨eo, en, em, eg, eoff, rfl, hO, hg1, hg2, hln⟩ := retG hr; replace HF := hid (fam_add HF.out hb HX.out.b.size (v := ⟨orN D, eo, en, em, eg, eoff, []⟩) hO hg1 hg2); (try (replace HVB := hid (HVB.out.below hb))); replace HX := hid (HX.out.below hb); clear hr hO hg1 hg2 hln hb)
          go_wp2_with fail
          refine hK.out _ _ ?_ (fun hHeld => ?_)
          · exact ⟨HX.out.x.b.c0, HX.out.x.b.c1, HX.out.x.b.c2, HX.out.x.b.c3, HX.out.x.b.c4, HX.out.x.d.c0, HX.out.x.d.c1, HX.out.x.d.c2, HX.out.x.d.c3⟩
          clear hK K
          try simp only [Act.put, List.setIfInBounds_toArray, List.set_cons_zero, List.set_cons_succ]
          refine wpAnyH_ready (rs := [8]) (by kernel_rfl) (by simp) ?_
          refine AllReadyH.cons (o := { dst := some 37, op := Op.buildSlice 42 1 #[(0, Operand.tmp 36)], type := 42, pos := "law.go:116", after := #[{ on := 7, ground := Ground.data }], guard := none }) rfl (fun K hK => ?_) AllReadyH.nil
          go_simp
          refine hK.out _ _ ?_ (fun hHeld => ?_)
          · have HXn := HX.out.below ((Below.refl _ _).alloc (Nat.le_refl _) (.cells #[.int .i64 B.x0, .int .i64 B.y0, .int .i64 B.x1, .int .i64 B.y1, .slice ao n m] 26))
            exact ⟨HXn.x.b.c0, HXn.x.b.c1, HXn.x.b.c2, HXn.x.b.c3, HXn.x.b.c4, HXn.x.d.c0, HXn.x.d.c1, HXn.x.d.c2, HXn.x.d.c3⟩
          clear hK K
          try simp only [Act.put, List.setIfInBounds_toArray, List.set_cons_zero, List.set_cons_succ]
          have HVB := hid (vb_one (HV.out.below HX.out.x.low) (B := B))
          replace HF := hid (HF.out.below ((Below.refl _ _).alloc (Nat.le_refl _) (.cells #[.int .i64 B.x0, .int .i64 B.y0, .int .i64 B.x1, .int .i64 B.y1, .slice ao n m] 26)))
          replace HX := hid (HX.out.below ((Below.refl _ _).alloc (Nat.le_refl _) (.cells #[.int .i64 B.x0, .int .i64 B.y0, .int .i64 B.x1, .int .i64 B.y1, .slice ao n m] 26)))
          refine wpAnyH_ready (rs := [10]) (by kernel_rfl) (by simp) ?_
          refine AllReadyH.cons (o := { dst := some 39, op := Op.call { callee := Callee.value (Operand.func 29), args := #[Operand.tmp 37, Operand.tmp 38], argTypes := #[42, 23] }, type := 26, pos := "law.go:116", after := #[{ on := 8, ground := Ground.data }, { on := 9, ground := Ground.data }, { on := 6, ground := Ground.chain }], guard := none }) rfl (fun K hK => ?_) AllReadyH.nil
          go_simp
          (go_at_call 29; with_reducible refine Calls.mono (merge_any _ 1 1 _ _ [⟨B, ao, n, m, g, off, img B f⟩] D _ (by omega) HVB.out HU.out.2.2.2.2 HU.out.2.2.1 HU.out.2.2.2.1) ?_; rintro e wc ⟨hr, hb⟩; obtain ⟨uo, un, um, ug, uoff, rfl, hO, hg1, hg2, hln⟩ := retG hr; replace HF := hid (fam_add HF.out hb HX.out.b.size (v := ⟨orN D, uo, un, um, ug, uoff, []⟩) hO hg1 hg2); (try (replace HVB := hid (HVB.out.below hb))); replace HX := hid (HX.out.below hb); clear hr hO hg1 hg2 hln hb)
          go_wp2_with fail
          refine hK.out _ _ ?_ (fun hHeld => ?_)
          · exact ⟨HX.out.x.b.c0, HX.out.x.b.c1, HX.out.x.b.c2, HX.out.x.b.c3, HX.out.x.b.c4, HX.out.x.d.c0, HX.out.x.d.c1, HX.out.x.d.c2, HX.out.x.d.c3⟩
          clear hK K
          try simp only [Act.put, List.setIfInBounds_toArray, List.set_cons_zero, List.set_cons_succ]
          refine wpAnyH_ready (rs := [11]) (by kernel_rfl) (by simp) ?_
          refine AllReadyH.cons (o := { dst := some 40, op := Op.buildSlice 42 3 #[(0, Operand.tmp 31), (1, Operand.tmp 35), (2, Operand.tmp 39)], type := 42, pos := "law.go:116", after := #[{ on := 2, ground := Ground.data }, { on := 6, ground := Ground.data }, { on := 10, ground := Ground.data }], guard := none }) rfl (fun K hK => ?_) AllReadyH.nil
          go_simp
          refine hK.out _ _ ?_ (fun hHeld => ?_)
          · have HXn := HX.out.below ((Below.refl _ _).alloc (Nat.le_refl _) (.cells #[.int .i64 (orN D).x0, .int .i64 (orN D).y0, .int .i64 (orN D).x1, .int .i64 (orN D).y1, .slice co cn cm, .int .i64 (orN D).x0, .int .i64 (orN D).y0, .int .i64 (orN D).x1, .int .i64 (orN D).y1, .slice eo en em, .int .i64 (orN D).x0, .int .i64 (orN D).y0, .int .i64 (orN D).x1, .int .i64 (orN D).y1, .slice uo un um] 26))
            exact ⟨HXn.x.b.c0, HXn.x.b.c1, HXn.x.b.c2, HXn.x.b.c3, HXn.x.b.c4, HXn.x.d.c0, HXn.x.d.c1, HXn.x.d.c2, HXn.x.d.c3⟩
          clear hK K
          try simp only [Act.put, List.setIfInBounds_toArray, List.set_cons_zero, List.set_cons_succ]
          refine wpAnyH_take (i := 12) (oi := { dst := some 6, op := Op.assign (Operand.tmp 40), type := 42, pos := "law.go:116", after := #[{ on := 11, ground := Ground.data }, { on := 10, ground := Ground.chain }, { on := 0, ground := Ground.phase }, { on := 1, ground := Ground.phase }, { on := 2, ground := Ground.phase }, { on := 3, ground := Ground.phase }, { on := 4, ground := Ground.phase }, { on := 5, ground := Ground.phase }, { on := 6, ground := Ground.phase }, { on := 7, ground := Ground.phase }, { on := 8, ground := Ground.phase }, { on := 9, ground := Ground.phase }, { on := 10, ground := Ground.phase }, { on := 11, ground := Ground.phase }], guard := none }) (v := ?_) rfl (by kernel_rfl) (by kernel_rfl) (by kernel_rfl) (fun _ _ _ h => h) (Or.inl ⟨by rfl, ?hy⟩) (by assumption) ?_
          case hy => (intro w hSw; (try dsimp only at hSw); go_simp; first | done | with_reducible rfl)
          try simp only [Act.put, List.setIfInBounds_toArray, List.set_cons_zero, List.set_cons_succ]
          refine wpAnyH_done (by kernel_rfl) ?_ _
          go_wp2_with fail
          go_meet
          case rel => exact ⟨_, _, _, rfl, HX.out.below ((Below.refl _ _).alloc (Nat.le_refl _) (.cells #[.int .i64 (orN D).x0, .int .i64 (orN D).y0, .int .i64 (orN D).x1, .int .i64 (orN D).y1, .slice co cn cm, .int .i64 (orN D).x0, .int .i64 (orN D).y0, .int .i64 (orN D).x1, .int .i64 (orN D).y1, .slice eo en em, .int .i64 (orN D).x0, .int .i64 (orN D).y0, .int .i64 (orN D).x1, .int .i64 (orN D).y1, .slice uo un um] 26)), tri_new HF.out⟩
        · go_simp
          refine hK.out _ _ ?_ (fun hHeld => ?_)
          · have HXn := HX.out.below ((Below.refl _ _).alloc (Nat.le_refl _) (.cells #[.int .i64 B.x0, .int .i64 B.y0, .int .i64 B.x1, .int .i64 B.y1, .slice ao n m] 26))
            exact ⟨HXn.x.b.c0, HXn.x.b.c1, HXn.x.b.c2, HXn.x.b.c3, HXn.x.b.c4, HXn.x.d.c0, HXn.x.d.c1, HXn.x.d.c2, HXn.x.d.c3⟩
          clear hK K
          try simp only [Act.put, List.setIfInBounds_toArray, List.set_cons_zero, List.set_cons_succ]
          have HVB := hid (vb_one (HV.out.below HX.out.x.low) (B := B))
          replace HF := hid (HF.out.below ((Below.refl _ _).alloc (Nat.le_refl _) (.cells #[.int .i64 B.x0, .int .i64 B.y0, .int .i64 B.x1, .int .i64 B.y1, .slice ao n m] 26)))
          replace HX := hid (HX.out.below ((Below.refl _ _).alloc (Nat.le_refl _) (.cells #[.int .i64 B.x0, .int .i64 B.y0, .int .i64 B.x1, .int .i64 B.y1, .slice ao n m] 26)))
          refine wpAnyH_ready (rs := [6]) (by kernel_rfl) (by simp) ?_
          refine AllReadyH.cons (o := { dst := some 35, op := Op.call { callee := Callee.value (Operand.func 22), args := #[Operand.tmp 32, Operand.tmp 33, Operand.tmp 34], argTypes := #[26, 23, 23] }, type := 26, pos := "law.go:116", after := #[{ on := 3, ground := Ground.data }, { on := 4, ground := Ground.data }, { on := 5, ground := Ground.data }, { on := 2, ground := Ground.chain }], guard := none }) rfl (fun K hK => ?_) AllReadyH.nil
          go_simp
          (go_at_call 22; with_reducible refine Calls.mono (clip_any B ao n m g off f D D _ HU.out.1 HU.out.2.1 (HV.out.below HX.out.x.low) HU.out.2.2.1 HU.out.2.2.2.1) ?_; rintro e wc ⟨hr, hb⟩; obtain ⟨eo, en, em, eg, eoff, rfl, hO, hg1, hg2, hln⟩ := retG hr; replace HF := hid (fam_add HF.out hb HX.out.b.size (v := ⟨orN D, eo, en, em, eg, eoff, []⟩) hO hg1 hg2); (try (replace HVB := hid (HVB.out.below hb))); replace HX := hid (HX.out.below hb); clear hr hO hg1 hg2 hln hb)
          go_wp2_with fail
          refine hK.out _ _ ?_ (fun hHeld => ?_)
          · exact ⟨HX.out.x.b.c0, HX.out.x.b.c1, HX.out.x.b.c2, HX.out.x.b.c3, HX.out.x.b.c4, HX.out.x.d.c0, HX.out.x.d.c1, HX.out.x.d.c2, HX.out.x.d.c3⟩
          clear hK K
          try simp only [Act.put, List.setIfInBounds_toArray, List.set_cons_zero, List.set_cons_succ]
          refine wpAnyH_ready (rs := [10]) (by kernel_rfl) (by simp) ?_
          refine AllReadyH.cons (o := { dst := some 39, op := Op.call { callee := Callee.value (Operand.func 29), args := #[Operand.tmp 37, Operand.tmp 38], argTypes := #[42, 23] }, type := 26, pos := "law.go:116", after := #[{ on := 8, ground := Ground.data }, { on := 9, ground := Ground.data }, { on := 6, ground := Ground.chain }], guard := none }) rfl (fun K hK => ?_) AllReadyH.nil
          go_simp
          (go_at_call 29; with_reducible refine Calls.mono (merge_any _ 1 1 _ _ [⟨B, ao, n, m, g, off, img B f⟩] D _ (by omega) HVB.out HU.out.2.2.2.2 HU.out.2.2.1 HU.out.2.2.2.1) ?_; rintro e wc ⟨hr, hb⟩; obtain ⟨uo, un, um, ug, uoff, rfl, hO, hg1, hg2, hln⟩ := retG hr; replace HF := hid (fam_add HF.out hb HX.out.b.size (v := ⟨orN D, uo, un, um, ug, uoff, []⟩) hO hg1 hg2); (try (replace HVB := hid (HVB.out.below hb))); replace HX := hid (HX.out.below hb); clear hr hO hg1 hg2 hln hb)
          go_wp2_with fail
          refine hK.out _ _ ?_ (fun hHeld => ?_)
          · exact ⟨HX.out.x.b.c0, HX.out.x.b.c1, HX.out.x.b.c2, HX.out.x.b.c3, HX.out.x.b.c4, HX.out.x.d.c0, HX.out.x.d.c1, HX.out.x.d.c2, HX.out.x.d.c3⟩
          clear hK K
          try simp only [Act.put, List.setIfInBounds_toArray, List.set_cons_zero, List.set_cons_succ]
          refine wpAnyH_ready (rs := [11]) (by kernel_rfl) (by simp) ?_
          refine AllReadyH.cons (o := { dst := some 40, op := Op.buildSlice 42 3 #[(0, Operand.tmp 31), (1, Operand.tmp 35), (2, Operand.tmp 39)], type := 42, pos := "law.go:116", after := #[{ on := 2, ground := Ground.data }, { on := 6, ground := Ground.data }, { on := 10, ground := Ground.data }], guard := none }) rfl (fun K hK => ?_) AllReadyH.nil
          go_simp
          refine hK.out _ _ ?_ (fun hHeld => ?_)
          · have HXn := HX.out.below ((Below.refl _ _).alloc (Nat.le_refl _) (.cells #[.int .i64 (orN D).x0, .int .i64 (orN D).y0, .int .i64 (orN D).x1, .int .i64 (orN D).y1, .slice co cn cm, .int .i64 (orN D).x0, .int .i64 (orN D).y0, .int .i64 (orN D).x1, .int .i64 (orN D).y1, .slice eo en em, .int .i64 (orN D).x0, .int .i64 (orN D).y0, .int .i64 (orN D).x1, .int .i64 (orN D).y1, .slice uo un um] 26))
            exact ⟨HXn.x.b.c0, HXn.x.b.c1, HXn.x.b.c2, HXn.x.b.c3, HXn.x.b.c4, HXn.x.d.c0, HXn.x.d.c1, HXn.x.d.c2, HXn.x.d.c3⟩
          clear hK K
          try simp only [Act.put, List.setIfInBounds_toArray, List.set_cons_zero, List.set_cons_succ]
          refine wpAnyH_take (i := 12) (oi := { dst := some 6, op := Op.assign (Operand.tmp 40), type := 42, pos := "law.go:116", after := #[{ on := 11, ground := Ground.data }, { on := 10, ground := Ground.chain }, { on := 0, ground := Ground.phase }, { on := 1, ground := Ground.phase }, { on := 2, ground := Ground.phase }, { on := 3, ground := Ground.phase }, { on := 4, ground := Ground.phase }, { on := 5, ground := Ground.phase }, { on := 6, ground := Ground.phase }, { on := 7, ground := Ground.phase }, { on := 8, ground := Ground.phase }, { on := 9, ground := Ground.phase }, { on := 10, ground := Ground.phase }, { on := 11, ground := Ground.phase }], guard := none }) (v := ?_) rfl (by kernel_rfl) (by kernel_rfl) (by kernel_rfl) (fun _ _ _ h => h) (Or.inl ⟨by rfl, ?hy⟩) (by assumption) ?_
          case hy => (intro w hSw; (try dsimp only at hSw); go_simp; first | done | with_reducible rfl)
          try simp only [Act.put, List.setIfInBounds_toArray, List.set_cons_zero, List.set_cons_succ]
          refine wpAnyH_done (by kernel_rfl) ?_ _
          go_wp2_with fail
          go_meet
          case rel => exact ⟨_, _, _, rfl, HX.out.below ((Below.refl _ _).alloc (Nat.le_refl _) (.cells #[.int .i64 (orN D).x0, .int .i64 (orN D).y0, .int .i64 (orN D).x1, .int .i64 (orN D).y1, .slice co cn cm, .int .i64 (orN D).x0, .int .i64 (orN D).y0, .int .i64 (orN D).x1, .int .i64 (orN D).y1, .slice eo en em, .int .i64 (orN D).x0, .int .i64 (orN D).y0, .int .i64 (orN D).x1, .int .i64 (orN D).y1, .slice uo un um] 26)), tri_new HF.out⟩
      · go_simp
        refine hK.out _ _ ?_ (fun hHeld => ?_)
        · have HXn := HX.out.below ((Below.refl _ _).alloc (Nat.le_refl _) (.cells #[.int .i64 B.x0, .int .i64 B.y0, .int .i64 B.x1, .int .i64 B.y1, .slice ao n m] 26))
          exact ⟨HXn.x.b.c0, HXn.x.b.c1, HXn.x.b.c2, HXn.x.b.c3, HXn.x.b.c4, HXn.x.d.c0, HXn.x.d.c1, HXn.x.d.c2, HXn.x.d.c3⟩
        clear hK K
        try simp only [Act.put, List.setIfInBounds_toArray, List.set_cons_zero, List.set_cons_succ]
        have HVB := hid (vb_one (HV.out.below HX.out.x.low) (B := B))
        replace HF := hid (HF.out.below ((Below.refl _ _).alloc (Nat.le_refl _) (.cells #[.int .i64 B.x0, .int .i64 B.y0, .int .i64 B.x1, .int .i64 B.y1, .slice ao n m] 26)))
        replace HX := hid (HX.out.below ((Below.refl _ _).alloc (Nat.le_refl _) (.cells #[.int .i64 B.x0, .int .i64 B.y0, .int .i64 B.x1, .int .i64 B.y1, .slice ao n m] 26)))
        refine wpAnyH_ready (rs := [2]) (by kernel_rfl) (by simp) ?_
        refine AllReadyH.cons (o := { dst := some 31, op := Op.call { callee := Callee.value (Operand.func 20), args := #[Operand.tmp 29, Operand.tmp 30, Operand.const (Value.int IntKind.i64 0), Operand.const (Value.int IntKind.i64 0)], argTypes := #[26, 23, 3, 3] }, type := 26, pos := "law.go:116", after := #[{ on := 0, ground := Ground.data }, { on := 1, ground := Ground.data }], guard := none }) rfl (fun K hK => ?_) AllReadyH.nil
        go_simp
        (go_at_call 20; with_reducible refine Calls.mono (offset_any B ao n m g off f D 0 0 _ HU.out.1 HU.out.2.1 (HV.out.below HX.out.x.low) HU.out.2.2.1 HU.out.2.2.2.1 (by omega) (by omega)) ?_; rintro e wc ⟨hr, hb⟩; obtain ⟨co, cn, cm, cg, coff, rfl, hO, hg1, hg2, hln⟩ := retG hr; replace HF := hid (fam_add HF.out hb HX.out.b.size (v := ⟨orN D, co, cn, cm, cg, coff, []⟩) hO hg1 hg2); (try (replace HVB := hid (HVB.out.below hb))); replace HX := hid (HX.out.below hb); clear hr hO hg1 hg2 hln hb)
        go_wp2_with fail
        refine hK.out _ _ ?_ (fun hHeld => ?_)
        · exact ⟨HX.out.x.b.c0, HX.out.x.b.c1, HX.out.x.b.c2, HX.out.x.b.c3, HX.out.x.b.c4, HX.out.x.d.c0, HX.out.x.d.c1, HX.out.x.d.c2, HX.out.x.d.c3⟩
        clear hK K
        try simp only [Act.put, List.setIfInBounds_toArray, List.set_cons_zero, List.set_cons_succ]
        refine wpAnyH_ready (rs := [6]) (by kernel_rfl) (by simp) ?_
        refine AllReadyH.cons (o := { dst := some 35, op := Op.call { callee := Callee.value (Operand.func 22), args := #[Operand.tmp 32, Operand.tmp 33, Operand.tmp 34], argTypes := #[26, 23, 23] }, type := 26, pos := "law.go:116", after := #[{ on := 3, ground := Ground.data }, { on := 4, ground := Ground.data }, { on := 5, ground := Ground.data }, { on := 2, ground := Ground.chain }], guard := none }) rfl (fun K hK => ?_) AllReadyH.nil
        go_simp
        (go_at_call 22; with_reducible refine Calls.mono (clip_any B ao n m g off f D D _ HU.out.1 HU.out.2.1 (HV.out.below HX.out.x.low) HU.out.2.2.1 HU.out.2.2.2.1) ?_; rintro e wc ⟨hr, hb⟩; obtain ⟨eo, en, em, eg, eoff, rfl, hO, hg1, hg2, hln⟩ := retG hr; replace HF := hid (fam_add HF.out hb HX.out.b.size (v := ⟨orN D, eo, en, em, eg, eoff, []⟩) hO hg1 hg2); (try (replace HVB := hid (HVB.out.below hb))); replace HX := hid (HX.out.below hb); clear hr hO hg1 hg2 hln hb)
        go_wp2_with fail
        refine hK.out _ _ ?_ (fun hHeld => ?_)
        · exact ⟨HX.out.x.b.c0, HX.out.x.b.c1, HX.out.x.b.c2, HX.out.x.b.c3, HX.out.x.b.c4, HX.out.x.d.c0, HX.out.x.d.c1, HX.out.x.d.c2, HX.out.x.d.c3⟩
        clear hK K
        try simp only [Act.put, List.setIfInBounds_toArray, List.set_cons_zero, List.set_cons_succ]
        refine wpAnyH_ready (rs := [10]) (by kernel_rfl) (by simp) ?_
        refine AllReadyH.cons (o := { dst := some 39, op := Op.call { callee := Callee.value (Operand.func 29), args := #[Operand.tmp 37, Operand.tmp 38], argTypes := #[42, 23] }, type := 26, pos := "law.go:116", after := #[{ on := 8, ground := Ground.data }, { on := 9, ground := Ground.data }, { on := 6, ground := Ground.chain }], guard := none }) rfl (fun K hK => ?_) AllReadyH.nil
        go_simp
        (go_at_call 29; with_reducible refine Calls.mono (merge_any _ 1 1 _ _ [⟨B, ao, n, m, g, off, img B f⟩] D _ (by omega) HVB.out HU.out.2.2.2.2 HU.out.2.2.1 HU.out.2.2.2.1) ?_; rintro e wc ⟨hr, hb⟩; obtain ⟨uo, un, um, ug, uoff, rfl, hO, hg1, hg2, hln⟩ := retG hr; replace HF := hid (fam_add HF.out hb HX.out.b.size (v := ⟨orN D, uo, un, um, ug, uoff, []⟩) hO hg1 hg2); (try (replace HVB := hid (HVB.out.below hb))); replace HX := hid (HX.out.below hb); clear hr hO hg1 hg2 hln hb)
        go_wp2_with fail
        refine hK.out _ _ ?_ (fun hHeld => ?_)
        · exact ⟨HX.out.x.b.c0, HX.out.x.b.c1, HX.out.x.b.c2, HX.out.x.b.c3, HX.out.x.b.c4, HX.out.x.d.c0, HX.out.x.d.c1, HX.out.x.d.c2, HX.out.x.d.c3⟩
        clear hK K
        try simp only [Act.put, List.setIfInBounds_toArray, List.set_cons_zero, List.set_cons_succ]
        refine wpAnyH_ready (rs := [11]) (by kernel_rfl) (by simp) ?_
        refine AllReadyH.cons (o := { dst := some 40, op := Op.buildSlice 42 3 #[(0, Operand.tmp 31), (1, Operand.tmp 35), (2, Operand.tmp 39)], type := 42, pos := "law.go:116", after := #[{ on := 2, ground := Ground.data }, { on := 6, ground := Ground.data }, { on := 10, ground := Ground.data }], guard := none }) rfl (fun K hK => ?_) AllReadyH.nil
        go_simp
        refine hK.out _ _ ?_ (fun hHeld => ?_)
        · have HXn := HX.out.below ((Below.refl _ _).alloc (Nat.le_refl _) (.cells #[.int .i64 (orN D).x0, .int .i64 (orN D).y0, .int .i64 (orN D).x1, .int .i64 (orN D).y1, .slice co cn cm, .int .i64 (orN D).x0, .int .i64 (orN D).y0, .int .i64 (orN D).x1, .int .i64 (orN D).y1, .slice eo en em, .int .i64 (orN D).x0, .int .i64 (orN D).y0, .int .i64 (orN D).x1, .int .i64 (orN D).y1, .slice uo un um] 26))
          exact ⟨HXn.x.b.c0, HXn.x.b.c1, HXn.x.b.c2, HXn.x.b.c3, HXn.x.b.c4, HXn.x.d.c0, HXn.x.d.c1, HXn.x.d.c2, HXn.x.d.c3⟩
        clear hK K
        try simp only [Act.put, List.setIfInBounds_toArray, List.set_cons_zero, List.set_cons_succ]
        refine wpAnyH_take (i := 12) (oi := { dst := some 6, op := Op.assign (Operand.tmp 40), type := 42, pos := "law.go:116", after := #[{ on := 11, ground := Ground.data }, { on := 10, ground := Ground.chain }, { on := 0, ground := Ground.phase }, { on := 1, ground := Ground.phase }, { on := 2, ground := Ground.phase }, { on := 3, ground := Ground.phase }, { on := 4, ground := Ground.phase }, { on := 5, ground := Ground.phase }, { on := 6, ground := Ground.phase }, { on := 7, ground := Ground.phase }, { on := 8, ground := Ground.phase }, { on := 9, ground := Ground.phase }, { on := 10, ground := Ground.phase }, { on := 11, ground := Ground.phase }], guard := none }) (v := ?_) rfl (by kernel_rfl) (by kernel_rfl) (by kernel_rfl) (fun _ _ _ h => h) (Or.inl ⟨by rfl, ?hy⟩) (by assumption) ?_
        case hy => (intro w hSw; (try dsimp only at hSw); go_simp; first | done | with_reducible rfl)
        try simp only [Act.put, List.setIfInBounds_toArray, List.set_cons_zero, List.set_cons_succ]
        refine wpAnyH_done (by kernel_rfl) ?_ _
        go_wp2_with fail
        go_meet
        case rel => exact ⟨_, _, _, rfl, HX.out.below ((Below.refl _ _).alloc (Nat.le_refl _) (.cells #[.int .i64 (orN D).x0, .int .i64 (orN D).y0, .int .i64 (orN D).x1, .int .i64 (orN D).y1, .slice co cn cm, .int .i64 (orN D).x0, .int .i64 (orN D).y0, .int .i64 (orN D).x1, .int .i64 (orN D).y1, .slice eo en em, .int .i64 (orN D).x0, .int .i64 (orN D).y0, .int .i64 (orN D).x1, .int .i64 (orN D).y1, .slice uo un um] 26)), tri_new HF.out⟩

    case rest =>
      obtain ⟨kl, ol, L, rfl, hK, hT⟩ := hcut
      obtain ⟨w2, rfl⟩ : ∃ w2, w2 = wc := ⟨_, rfl⟩
      have HS := hid (And.intro hK hT)
      have hL3 := tri_len hT
      have HZ : Hid (W.heap.size + 1 + 1 ≤ w1.heap.size) := hid HX1.out.sz
      clear hK hT HX HF
      go_wp2
      go_loopg [7] 3 (fun gh v7 wr => ∃ i : Nat, i ≤ 3 ∧ gh = 3 - i ∧ v7 = .int .i64 (i : Int) ∧ Kq W B ao n m D w1 wr ∧ Tri w1.heap.size wr kl ol L)
      case atStart => exact ⟨0, Nat.zero_le _, rfl, rfl, HS.out.1, HS.out.2⟩
      case round =>
        clear HS
        obtain ⟨i, hi, rfl, rfl, hK, hT⟩ := hrel
        have HS := hid (And.intro hK hT)
        by_cases hil : i < 3
        · have hiz : (i : Int) < 3 := by omega
          obtain ⟨⟨vB, vo, vn, vm, vg, vf, vl⟩, hv⟩ : ∃ v, L[i]? = some v := ⟨_, List.getElem?_eq_getElem (by omega)⟩
          have HHV := hid hv
          obtain ⟨⟨e0, e1, e2, e3, e4⟩, l0, hl0⟩ := tri_at hT hv
          have hvn := vx_small hl0.v
          clear hK hT hv hl0
          go_wp2
          clear e0 e1 e2 e3 e4
          go_loopg [8] vn (fun gh v8 wr => ∃ k : Nat, k ≤ vn ∧ gh = vn - k ∧ v8 = .int .i64 (k : Int) ∧ Kq W B ao n m D w1 wr ∧ Tri w1.heap.size wr kl ol L)
          case atStart => exact ⟨0, Nat.zero_le _, rfl, rfl, HS.out.1, HS.out.2⟩
          case round =>
            clear HS
            obtain ⟨k, hk, rfl, rfl, hK, hT⟩ := hrel
            have HS := hid (And.intro hK hT)
            obtain ⟨⟨e0, e1, e2, e3, e4⟩, lst, hO⟩ := tri_at hT HHV.out
            have HO := hid hO
            by_cases hkl : k < vn
            · have hkz : (k : Int) < (vn : Int) := by omega
              have hvm : 0 < vm := by have := hO.v.le; omega
              obtain rfl := hO.v.addr hvm
              obtain ⟨u0, u1, u2, u3, z0, z1, z2, z3, f0, f1, f2, f3⟩ := ox_at4 hO hkl
              have hlo := (hO.new hvm).1
              clear hO hK hT
              go_wp2
              go_roundg (vn - (k + 1))
              case measure => omega
              case rel =>
                have hb := but_cells vg (vf + k * 4) (flat [⟨9, 9, 9, 9⟩]) wr
                exact ⟨k + 1, by omega, rfl, by simp, HS.out.1.but hb HZ.out hlo, HS.out.2.put HHV.out hvm hb (ox_put HO.out (s := k) (news := [⟨9, 9, 9, 9⟩]) (by simp; omega))⟩
            · obtain rfl : vn = k := by omega
              clear hO hK hT
              go_wp2
              go_roundg (3 - (i + 1))
              case measure => omega
              case rel => exact ⟨i + 1, by omega, rfl, by simp, HS.out.1, HS.out.2⟩
        · have hiz : ¬ (i : Int) < 3 := by omega
          have HB3 := hid hK.b
          obtain ⟨b0, b1, b2, b3, b4, bf⟩ := hK.x.b
          obtain ⟨q0, q1, q2, q3, q4, qf⟩ := has5_low HQ.out.1 hK.b HQ.out.1.lt
          have HVb := hid (HV.out.below hK.x.low)
          have HVq := hid (HQ.out.2.below hK.b)
          clear hK hT
          go_wp2_with (go_at_call 17; with_reducible refine Calls.mono (same_yes B ao n m g off qo qm qg qoff _ _ HVb.out HVq.out) ?_; rintro e w5 ⟨rfl, hb5⟩; have HB5 := hid (HS.out.1.x.low.trans (hb5.mono HS.out.1.x.low.size)); clear hb5)
          go_ret
          exact ⟨rfl, HB5.out⟩

theorem own : ownKnob Try.prog.godebug = none := by kernel_rfl

set_option maxRecDepth 100000 in
theorem lifted (os : Os) (started : os.Started) (H : Type) (enc : TypeId × Value → H) :
    ReturnsInHanded {} Try.checked os 8 .any (Rows.moveKeepsSpec.pre6 enc Try.prog Try.f8 Rows.moveKeepsRow.domain false) (Rows.moveKeepsSpec.post enc Try.prog Try.f8 false true false false) := by
  refine returnsInHanded_of_change (C := Try.checked) own started (by kernel_rfl) Try.func8
    (ChangeSpec.witness6 (enc := enc) (C := Try.checked) false ⟨#[], #[.agg #[.int .i64 0, .int .i64 0, .int .i64 0, .int .i64 0, .slice none 0 0], .agg #[.int .i64 0, .int .i64 0, .int .i64 0, .int .i64 0]], []⟩ 8 (by kernel_rfl) (by kernel_rfl) (by kernel_rfl) (by kernel_rfl)) ?_
  intro W base args ds gs before hval0 hW hcnd _
  have hval : ∀ (j : Nat) t v, Try.f8.params[j]? = some t → args[j]? = some v → Value.okWide Try.prog W .any base t v := hval0
  have hW' := hW
  obtain ⟨p, q, hA0, hV, rfl, hfz, hnd⟩ := hW
  have hA : DataW.TrodAll enc Try.prog W 0 (fun _ => true) true Try.f8.params.toList args.toList ds p := hA0
  rw [Try.params8] at hA hval
  obtain ⟨v0, vs0, d0, ds0, p0, q0, hargs, rfl, rfl, h0, r0⟩ := trodAll_cons hA
  obtain ⟨v1, vs1, d1, ds1, p1, q1, rfl, rfl, rfl, h1, r1⟩ := trodAll_cons r0
  obtain ⟨rfl, rfl, rfl⟩ := trodAll_nil r1
  obtain rfl : args = #[v0, v1] := by cases args; simp_all
  obtain ⟨rfl, rfl⟩ := trodVars_none hV
  obtain ⟨B, ao, n, c, g, off, l, rfl, hv0, hp0⟩ := open_buf (hval 0 26 v0 rfl rfl) h0
  obtain ⟨D, rfl⟩ := open_rect (hval 1 23 v1 rfl rfl) h1
  clear hA0 hval0
  simp only [List.append_nil] at hW'
  have hlt : ∀ x ∈ p0 ++ (p1), x.block < W.heap.size := fun x hx => by simpa using hW'.lt x (by simpa using hx)
  refine (walk B ao n c g off l D W hv0 hp0).mono fun e W' ⟨he, hg⟩ => ?_
  subst he
  have t0 := Below.trod laidOut (by kernel_rfl) (of_decide_eq_true (by kernel_rfl)) h0 hg (fun x hx => hlt x (List.mem_append_left _ hx))
  have t1 := Below.trod laidOut (by kernel_rfl) (of_decide_eq_true (by kernel_rfl)) h1 hg (fun x hx => hlt x (List.mem_append_right _ (hx)))
  exact ⟨_, rfl, ⟨_, _, _, _, _, _, hW', (trodAll_cons_mk (shut_bool Try.underlying4 _) trodAll_mk0), (trodAll_cons_mk t0 (trodAll_cons_mk t1 trodAll_mk0)), rfl, hg.frame _, fun h => by cases h⟩⟩

theorem over : Rows.moveKeepsRow.holds Try.pinned (OpenSpec.ofChange Rows.moveKeepsSpec) :=
  OpenClaim.holds_of_wide 8 Try.f8 rfl rfl rfl rfl rfl rfl rfl ⟨rfl, rfl, rfl, rfl, rfl⟩ rfl rfl rfl rfl rfl (by kernel_rfl) Try.func8 (by kernel_rfl)
    (of_decide_eq_true (by kernel_rfl)) (by unfold Func.isWrapper; first | (rw [if_pos (by decide +kernel)]; kernel_rfl) | (rw [if_neg (by decide +kernel)]; exact ⟨rfl, rfl⟩))
    (fun os started H enc _ => lifted os started H enc)

theorem proved : Rows.MoveKeepsSaid := over
#print axioms proved
end Go.Proofs.Ytfgfgfmimejpdaa.moveKeeps
