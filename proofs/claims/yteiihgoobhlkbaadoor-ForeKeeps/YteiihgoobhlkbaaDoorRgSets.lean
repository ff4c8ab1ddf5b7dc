/- The document's region of the points that are wanted: the contract. -/
import Derived.Test.YteiihgoobhlkbaaDoorRgMemA
import Derived.Test.YteiihgoobhlkbaaDoorRgWants
import Derived.Test.YteiihgoobhlkbaaDoorRgPlain
import Derived.Deep.RegionHeld3
import Derived.Deep.Cut
namespace Go.Proofs.YteiihgoobhlkbaaDoor.Rg
open Num Go.RowKit
set_option linter.unusedVariables false
attribute [local go_sem ↓] run_app
attribute [local go_sem] lenV_slice

theorem cells4_one {l : List R} : ∀ u ∈ flat l, u.oneCell' = true := by
  intro u hu
  simp only [flat, List.mem_flatMap] at hu
  obtain ⟨r, -, hu⟩ := hu
  simp only [cells4, List.mem_cons, List.not_mem_nil, or_false] at hu
  rcases hu with rfl | rfl | rfl | rfl <;> rfl
theorem srcV {t : TypeId} (ht : Tryd.prog.underlying t = some (.slice 34)) {w : World} {ao : Option Addr} {n c b off : Nat} {l : List R} (h : Vw w ao n c b off l) : Src Tryd.prog 4 t (.slice ao n c) n (flat l) w := by
  by_cases hc : 0 < c
  · obtain rfl := h.addr hc
    exact Src.ofSlice w ht ⟨b, off, none⟩ n c (flat l) h.len (fun j u hu => by rw [Addr.add_lit]; exact h.lies j u hu) cells4_one
  · have hn : n = 0 := by have := h.le; omega
    subst hn
    have hl : l = [] := List.length_eq_zero_iff.1 (vw_len h)
    subst hl
    cases ao with
    | none => exact Src.ofNil w ht c
    | some a => exact Src.ofSlice w ht a 0 c [] (by simp) (fun j u hu => by simp at hu) (fun u hu => by cases hu)

theorem xs_step {l : List R} {k : Nat} {r : R} (h : l[k]? = some r) : xsOf (l.take (k + 1)) = if empB r = true then xsOf (l.take k) else putL (putL (xsOf (l.take k)) r.x0) r.x1 := by
  obtain ⟨hk, rfl⟩ := List.getElem?_eq_some_iff.1 h
  unfold xsOf
  rw [List.take_succ_eq_append_getElem hk, List.foldl_append]
  rfl
theorem ys_step {l : List R} {k : Nat} {r : R} (h : l[k]? = some r) : ysOf (l.take (k + 1)) = if empB r = true then ysOf (l.take k) else putL (putL (ysOf (l.take k)) r.y0) r.y1 := by
  obtain ⟨hk, rfl⟩ := List.getElem?_eq_some_iff.1 h
  unfold ysOf
  rw [List.take_succ_eq_append_getElem hk, List.foldl_append]
  rfl
theorem filter_two (x : Int) : ∀ l : List Int, (l.filter fun m => decide (m < x)).length + (l.filter fun m => decide (x < m)).length ≤ l.length
  | [] => by simp
  | m :: l => by
    have ih := filter_two x l
    simp only [List.filter_cons]
    by_cases h1 : m < x
    · have h2 : ¬ x < m := by omega
      simp only [h1, h2, decide_true, decide_false, if_true, List.length_cons]
      simp
      omega
    · by_cases h2 : x < m
      · simp only [h1, h2, decide_true, decide_false, List.length_cons]
        simp
        omega
      · simp only [h1, h2, decide_false, List.length_cons]
        simp
        omega
theorem put_len (l : List Int) (x : Int) : (putL l x).length ≤ l.length + 1 := by
  unfold putL
  rw [List.length_append, List.length_cons]
  have := filter_two x l
  omega
theorem xs_len {l : List R} : ∀ k, k ≤ l.length → (xsOf (l.take k)).length ≤ 2 * k
  | 0, _ => by simp [xsOf]
  | k + 1, hk => by
    have ih := xs_len k (by omega : k ≤ l.length)
    rw [xs_step (List.getElem?_eq_getElem (by omega))]
    split
    · omega
    · have h1 := put_len (xsOf (l.take k)) (l[k]).x0
      have h2 := put_len (putL (xsOf (l.take k)) (l[k]).x0) (l[k]).x1
      omega
theorem ys_len {l : List R} : ∀ k, k ≤ l.length → (ysOf (l.take k)).length ≤ 2 * k
  | 0, _ => by simp [ysOf]
  | k + 1, hk => by
    have ih := ys_len k (by omega : k ≤ l.length)
    rw [ys_step (List.getElem?_eq_getElem (by omega))]
    split
    · omega
    · have h1 := put_len (ysOf (l.take k)) (l[k]).y0
      have h2 := put_len (putL (ysOf (l.take k)) (l[k]).y0) (l[k]).y1
      omega

theorem put_bd {w w1 : World} {ao ao1 : Option Addr} {n c b off n1 c1 b1 off1 : Nat} {l : List Int} {x : Int} (h : Vi w ao n c b off l) (h1 : Vi w1 ao1 n1 c1 b1 off1 (putL l x)) (hn : n ≤ 999999) : n1 ≤ 1000000 := by
  rw [← vi_len h1]
  have := put_len l x
  have := vi_len h
  omega

/-- two cells that are read, and that all that was there stays -/
abbrev Sw (w : World) (b o1 o2 : Nat) (v1 v2 : Value) (w' : World) : Prop := (w'.cell? ⟨b, o1, none⟩ = some v1 ∧ w'.cell? ⟨b, o2, none⟩ = some v2) ∧ Below w.heap.size w w'
theorem sw_below {w : World} {b o1 o2 : Nat} {v1 v2 : Value} {w1 w2 : World} (h : Sw w b o1 o2 v1 v2 w1) (hb : Below w1.heap.size w1 w2) : Sw w b o1 o2 v1 v2 w2 := by
  obtain ⟨⟨c1, c2⟩, hB⟩ := h
  have hp : b < w1.heap.size := World.block_lt_of_cell? w1 ⟨b, o1, none⟩ c1
  exact ⟨⟨by rw [hb.cell (p := ⟨b, o1, none⟩) hp]; exact c1, by rw [hb.cell (p := ⟨b, o2, none⟩) hp]; exact c2⟩, hB.trans (hb.mono hB.size)⟩
theorem sw_drew {w : World} {b o1 o2 : Nat} {v1 v2 : Value} {w1 : World} (h : Sw w b o1 o2 v1 v2 w1) : Sw w b o1 o2 v1 v2 w1.drew := sw_below h (Below.refl _ _).drew

theorem app_rectD {B : Nat} {w : World} {ao : Option Addr} {n c b off : Nat} {l : List R} (h : Ow B w ao n c b off l) (hB : B ≤ w.heap.size) (hn : n ≤ 4000000000000) (r : R) :
    ∃ b' off', App 4 B #[26, 26] 26 (w.alloc (.cells #[.int .i64 r.x0, .int .i64 r.y0, .int .i64 r.x1, .int .i64 r.y1] 34)).drew ao n c b (flat l) (.slice (some ⟨w.heap.size, 0, none⟩) 1 1) 1 (cells4 r) b' off' :=
  app_own (h.below ((Below.refl _ _).alloc (Nat.le_refl _) _).drew) (by simp; omega) 26 26 26 34 _ 32 Tryd.underlying26 info34 rfl _ 1 (cells4 r) (srcR _ _ _ (by simp)) (by simp only [maxLen]; omega) (by omega)
theorem row_none {row : List R} (h : row.length = 0) (x : Int) : lastX1 row x = false := by
  rw [List.length_eq_zero_iff.1 h]; rfl

/-- two cells in two blocks -/
abbrev Sv (w : World) (b1 o1 b2 o2 : Nat) (v1 v2 : Value) (w' : World) : Prop := (w'.cell? ⟨b1, o1, none⟩ = some v1 ∧ w'.cell? ⟨b2, o2, none⟩ = some v2) ∧ Below w.heap.size w w'
theorem sv_below {w : World} {b1 o1 b2 o2 : Nat} {v1 v2 : Value} {w1 w2 : World} (h : Sv w b1 o1 b2 o2 v1 v2 w1) (hb : Below w1.heap.size w1 w2) : Sv w b1 o1 b2 o2 v1 v2 w2 := by
  obtain ⟨⟨c1, c2⟩, hB⟩ := h
  have hp : b1 < w1.heap.size := World.block_lt_of_cell? w1 ⟨b1, o1, none⟩ c1
  have hq : b2 < w1.heap.size := World.block_lt_of_cell? w1 ⟨b2, o2, none⟩ c2
  exact ⟨⟨by rw [hb.cell (p := ⟨b1, o1, none⟩) hp]; exact c1, by rw [hb.cell (p := ⟨b2, o2, none⟩) hq]; exact c2⟩, hB.trans (hb.mono hB.size)⟩
theorem sv_drew {w : World} {b1 o1 b2 o2 : Nat} {v1 v2 : Value} {w1 : World} (h : Sv w b1 o1 b2 o2 v1 v2 w1) : Sv w b1 o1 b2 o2 v1 v2 w1.drew := sv_below h (Below.refl _ _).drew

theorem out_le {out row : List R} {on rn j : Nat} (h3 : out.length = on) (h4 : row.length = rn) (h : on ≤ j * 1000000) (h' : rn ≤ 1000000) : (out ++ row).length ≤ (j + 1) * 1000000 := by
  have e : (out ++ row).length = on + rn := by rw [List.length_append, h3, h4]
  omega

set_option maxRecDepth 1000000 in
set_option maxHeartbeats 8000000 in
theorem sets_wide (how : Int) (f : Bool → Bool → Bool) (hf : how = 0 ∧ f = orF ∨ how = 1 ∧ f = andF ∨ how = 2 ∧ f = cutF) (W : World) (ao : Option Addr) (n c b off : Nat) (l : List R) (ao' : Option Addr) (n' c' b' off' : Nat) (l' : List R) (h : Vw W ao n c b off l) (h' : Vw W ao' n' c' b' off' l') (hN : l.length + l'.length ≤ 1000000000000)
    (hxk : ∀ k, (xsOf ((l ++ l').take k)).length ≤ 999000) (hyk : ∀ k, (ysOf ((l ++ l').take k)).length ≤ 999000) :
    Calls Tryd.prog 8 #[.slice ao n c, .slice ao' n' c', .int .i64 how] W fun e w' => RetO W.heap.size w' e (setsL f l l') ∧ Below W.heap.size W w' := by
  have hn := vw_len h
  have hn' := vw_len h'
  have H : Hid (Vw W ao n c b off l ∧ Vw W ao' n' c' b' off' l' ∧ l.length = n ∧ l'.length = n') := ⟨h, h', hn, hn'⟩
  have HF := hid hf
  obtain ⟨i0, hi, hz0, hz1, hz2⟩ := info_parts info34
  have HI := hid (And.intro hi (And.intro hz0 (And.intro hz1 hz2)))
  have hN1 : n + n' ≤ 1000000000000 := by omega
  have HXK := hid (And.intro hxk hyk)
  clear hxk hyk
  clear h h' hn hn' hf hi hz0 hz1 hz2
  go_enter Tryd.func8, Tryd.ntmps8
  go_wp2_with (first
    | (at_builtin; refine wpList_append_mine _ rfl (.tmp 20) (.tmp 21) 25 25 rfl (oz_nil 4 W.heap.size W none) (Nat.le_refl _) 34 i0 _ 32 Tryd.underlying25 HI.out.1 HI.out.2.1 HI.out.2.2.1 HI.out.2.2.2 rfl rfl _ n (flat l) rfl (srcV Tryd.underlying25 H.out.1) (by simp only [maxLen]; omega) (by omega) ?_; intro eo ec eb eoff w1 hO1 hB1 _ _; rw [Nat.zero_add, List.nil_append] at hO1; rw [Nat.zero_add]; have HO1 := hid (And.intro hO1 hB1); clear hO1 hB1)
    | (at_builtin; refine wpList_append_mine _ rfl (.tmp 23) (.tmp 24) 25 25 rfl HO1.out.1 HO1.out.2.size 34 i0 _ 32 Tryd.underlying25 HI.out.1 HI.out.2.1 HI.out.2.2.1 HI.out.2.2.2 rfl rfl _ n' (flat l') rfl (srcV Tryd.underlying25 (H.out.2.1.below HO1.out.2)) (by simp only [maxLen]; omega) (by omega) ?_; intro go gc gb goff w2 hO2 hB2 _ _; have HO2 := hid (And.intro hO2 (HO1.out.2.trans hB2)); clear hO2 hB2))
  have HV2 : Hid (Vw w2 go (n + n') gc gb goff (l ++ l') ∧ Below W.heap.size W w2 ∧ (l ++ l').length = n + n') := by
    have h1 := HO2.out.1.v
    rw [← flat_append] at h1
    exact ⟨h1, HO2.out.2, vw_len h1⟩
  clear HO1 HO2
  go_loopg [7, 8, 10] (n + n') (fun g v7 v8 v10 wr => ∃ k xo xn xc xb xoff yo yn yc yb yoff, k ≤ n + n' ∧ g = n + n' - k ∧ v10 = .int .i64 (k : Nat) ∧ v7 = .slice xo xn xc ∧ v8 = .slice yo yn yc ∧ Vi wr xo xn xc xb xoff (xsOf ((l ++ l').take k)) ∧ Vi wr yo yn yc yb yoff (ysOf ((l ++ l').take k)) ∧ Below w2.heap.size w2 wr)
  case atStart => exact ⟨0, _, _, _, 0, 0, _, _, _, 0, 0, Nat.zero_le _, rfl, rfl, rfl, rfl, (oz_nil 1 0 _ _).v, (oz_nil 1 0 _ _).v, Below.refl _ _⟩
  case round =>
    obtain ⟨k, xo, xn, xc, xb, xoff, yo, yn, yc, yb, yoff, hk, rfl, rfl, rfl, rfl, hX, hY, hB⟩ := hrel
    have hxn : xn ≤ 999000 := by rw [← vi_len hX]; exact HXK.out.1 k
    have hyn : yn ≤ 999000 := by rw [← vi_len hY]; exact HXK.out.2 k
    have HX : Hid (Vi wr xo xn xc xb xoff (xsOf ((l ++ l').take k)) ∧ Vi wr yo yn yc yb yoff (ysOf ((l ++ l').take k)) ∧ Below w2.heap.size w2 wr) := ⟨hX, hY, hB⟩
    by_cases hlt : k < n + n'
    · have hlz : (k : Int) < ((n + n' : Nat) : Int) := by omega
      obtain ⟨r, hr⟩ : ∃ s, (l ++ l')[k]? = some s := ⟨_, List.getElem?_eq_getElem (by rw [HV2.out.2.2]; exact hlt)⟩
      have HR := hid hr
      obtain ⟨rfl, h0, h1, h2, h3⟩ := vw_at (HV2.out.1.below hB) hr
      have hgb : gb < wr.heap.size := World.block_lt_of_cell? _ _ h0
      clear hX hY hB hr
      rcases hE : empB r with _ | _
      · have HE := hid hE
        clear hE
        as_aux_lemma =>
          go_wp2_with (first
            | (go_at_call 17; with_reducible refine Calls.mono (Rc.refEmpty_any r.x0 r.y0 r.x1 r.y1 wr) ?_; rintro e w3 ⟨rfl, hb⟩; have HB3 := hid hb; have hS := (⟨⟨(hb.cell (p := ⟨gb, goff + k * 4, none⟩) hgb).trans h0, (hb.cell (p := ⟨gb, goff + k * 4 + 2, none⟩) hgb).trans h2⟩, hb⟩ : Sw wr gb (goff + k * 4) (goff + k * 4 + 2) (.int .i64 r.x0) (.int .i64 r.x1) w3); have hS' := (⟨⟨(hb.cell (p := ⟨gb, goff + k * 4 + 1, none⟩) hgb).trans h1, (hb.cell (p := ⟨gb, goff + k * 4 + 3, none⟩) hgb).trans h3⟩, hb⟩ : Sw wr gb (goff + k * 4 + 1) (goff + k * 4 + 3) (.int .i64 r.y0) (.int .i64 r.y1) w3); clear hb; rw [show empB ⟨r.x0, r.y0, r.x1, r.y1⟩ = false from HE.out]))
          go_region_held3 (fun w' => (w'.cell? ⟨gb, goff + k * 4, none⟩ = some (.int .i64 r.x0) ∧ w'.cell? ⟨gb, goff + k * 4 + 2, none⟩ = some (.int .i64 r.x1)) ∧ Below wr.heap.size wr w') (repeat (first | with_reducible assumption | with_reducible refine sw_drew ?_ | with_reducible refine sw_below ?_ ‹_›))
            ((first
              | (go_at_call 18; with_reducible refine Calls.mono (put_any w3.drew xo xn xc xb xoff _ r.x0 (HX.out.1.below HB3.out.drew) (by omega)) ?_; rintro e w4 ⟨hr4, hb4⟩; obtain ⟨x2o, x2n, x2c, x2b, x2off, rfl, hO4⟩ := retI hr4; have HX4 := hid (And.intro hO4.v hb4))
              | (go_at_call 18; with_reducible refine Calls.mono (put_any w4 x2o x2n x2c x2b x2off _ r.x1 HX4.out.1 (put_bd HX.out.1 HX4.out.1 (by omega))) ?_; rintro e w5 ⟨hr5, hb5⟩; obtain ⟨x3o, x3n, x3c, x3b, x3off, rfl, hO5⟩ := retI hr5; have HX5 := hid (And.intro hO5.v hb5))))
          have hS5 := sw_below (sw_below (sw_drew hS') HX4.out.2) HX5.out.2
          have HB5 := hid hS5.2
          clear hS hS'
          go_wp2
          go_region_held3 (fun w' => (w'.cell? ⟨gb, goff + k * 4 + 1, none⟩ = some (.int .i64 r.y0) ∧ w'.cell? ⟨gb, goff + k * 4 + 3, none⟩ = some (.int .i64 r.y1)) ∧ Below wr.heap.size wr w') (repeat (first | with_reducible assumption | with_reducible refine sw_drew ?_ | with_reducible refine sw_below ?_ ‹_›))
            ((first
              | (go_at_call 18; with_reducible refine Calls.mono (put_any w5.drew yo yn yc yb yoff _ r.y0 (HX.out.2.1.below HB5.out.drew) (by omega)) ?_; rintro e w6 ⟨hr6, hb6⟩; obtain ⟨y2o, y2n, y2c, y2b, y2off, rfl, hO6⟩ := retI hr6; have HX6 := hid (And.intro hO6.v hb6))
              | (go_at_call 18; with_reducible refine Calls.mono (put_any w6 y2o y2n y2c y2b y2off _ r.y1 HX6.out.1 (put_bd HX.out.2.1 HX6.out.1 (by omega))) ?_; rintro e w7 ⟨hr7, hb7⟩; obtain ⟨y3o, y3n, y3c, y3b, y3off, rfl, hO7⟩ := retI hr7; have HX7 := hid (And.intro hO7.v hb7))))
          go_wp2
          go_roundg (n + n' - (k + 1))
          case measure => omega
          case rel =>
            have hb57 : Below w5.heap.size w5 w7 := ((Below.refl _ _).drew.trans HX6.out.2).trans (HX7.out.2.mono HX6.out.2.size)
            refine ⟨k + 1, _, _, _, x3b, x3off, _, _, _, y3b, y3off, hlt, rfl, by simp, rfl, rfl, ?_, ?_, ?_⟩
            · rw [xs_step HR.out, HE.out, if_neg (by simp)]
              exact HX5.out.1.below hb57
            · rw [ys_step HR.out, HE.out, if_neg (by simp)]
              exact HX7.out.1
            · exact (HX.out.2.2.trans (HB5.out.mono HX.out.2.2.size)).trans (hb57.mono (HX.out.2.2.trans (HB5.out.mono HX.out.2.2.size)).size)
      · have HE := hid hE
        clear hE
        as_aux_lemma =>
          go_wp2_with (first
            | (go_at_call 17; with_reducible refine Calls.mono (Rc.refEmpty_any r.x0 r.y0 r.x1 r.y1 wr) ?_; rintro e w3 ⟨rfl, hb⟩; have HB3 := hid hb; clear hb; rw [show empB ⟨r.x0, r.y0, r.x1, r.y1⟩ = true from HE.out]))
          go_roundg (n + n' - (k + 1))
          case measure => omega
          case rel =>
            refine ⟨k + 1, _, _, _, xb, xoff, _, _, _, yb, yoff, hlt, rfl, by simp, rfl, rfl, ?_, ?_, HX.out.2.2.trans (HB3.out.mono HX.out.2.2.size)⟩
            · rw [xs_step HR.out, HE.out, if_pos rfl]
              exact HX.out.1.below HB3.out
            · rw [ys_step HR.out, HE.out, if_pos rfl]
              exact HX.out.2.1.below HB3.out
    · obtain rfl : k = n + n' := by omega
      clear hX hY hB
      have HXS : Hid (Vi wr xo xn xc xb xoff (xsOf (l ++ l')) ∧ Vi wr yo yn yc yb yoff (ysOf (l ++ l')) ∧ Vw wr ao n c b off l ∧ Vw wr ao' n' c' b' off' l' ∧ Below W.heap.size W wr ∧ (xsOf (l ++ l')).length = xn ∧ (ysOf (l ++ l')).length = yn) := by
        have hT : (l ++ l').take (n + n') = l ++ l' := List.take_of_length_le (by rw [HV2.out.2.2]; exact Nat.le_refl _)
        have hb := HV2.out.2.1.trans (HX.out.2.2.mono HV2.out.2.1.size)
        have h1 := HX.out.1
        have h2 := HX.out.2.1
        rw [hT] at h1 h2
        exact ⟨h1, h2, H.out.1.below hb, H.out.2.1.below hb, hb, vi_len h1, vi_len h2⟩
      clear HX HV2 H
      obtain ⟨wb, rfl⟩ : ∃ wb, wb = wr := ⟨wr, rfl⟩
      obtain ⟨xs, hxs⟩ : ∃ xs, xs = xsOf (l ++ l') := ⟨_, rfl⟩
      obtain ⟨ys, hys⟩ : ∃ ys, ys = ysOf (l ++ l') := ⟨_, rfl⟩
      have HST : Hid (setsL f l l' = rowsL (wantL f l l') xs (ys.drop 0) [] 0) := by rw [hxs, hys]; rfl
      rw [← hxs, ← hys] at HXS
      clear hxs hys
      have hxn9 : xn ≤ 999000 := by omega
      have hyn9 : yn ≤ 999000 := by omega
      clear hxn hyn hk hlt
      go_wp2
      go_loopg [11, 12, 13] yn (fun g v11 v12 v13 wr => ∃ j oo on oc ob ooff out last, j ≤ yn ∧ g = yn - j ∧ v13 = .int .i64 (j : Nat) ∧ v11 = .slice oo on oc ∧ v12 = .int .i64 (last : Nat) ∧ Ow wb.heap.size wr oo on oc ob ooff out ∧ Below wb.heap.size wb wr ∧ last ≤ out.length ∧ out.length ≤ j * 1000000 ∧ rowsL (wantL f l l') xs (ys.drop j) out last = setsL f l l')
      case atStart => exact ⟨0, _, _, _, 0, 0, [], 0, Nat.zero_le _, rfl, rfl, rfl, rfl, oz_nil _ _ _ _, Below.refl _ _, Nat.le_refl _, by simp, HST.out.symm⟩
      case round =>
        clear HST
        obtain ⟨j, oo, on, oc, ob, ooff, out, last, hj, rfl, rfl, rfl, rfl, hO, hB, hlast, hol, hR⟩ := hrel
        obtain ⟨wj, rfl⟩ : ∃ wj, wj = wr := ⟨wr, rfl⟩
        have HO : Hid (Ow wb.heap.size wj oo on oc ob ooff out ∧ Below wb.heap.size wb wj ∧ out.length = on ∧ last ≤ out.length) := ⟨hO, hB, vw_len hO.v, hlast⟩
        have hon : on ≤ j * 1000000 := by rw [← vw_len hO.v]; exact hol
        have hlo : last ≤ on := by rw [← vw_len hO.v]; exact hlast
        have HR := hid hR
        clear hO hB hlast hol hR
        by_cases hj1 : j + 1 < yn
        · have hjz : (j : Int) + 1 < (yn : Int) := by omega
          obtain ⟨y, hy⟩ : ∃ y, ys[j]? = some y := ⟨_, List.getElem?_eq_getElem (by rw [HXS.out.2.2.2.2.2.2]; omega)⟩
          obtain ⟨y', hy'⟩ : ∃ y', ys[j + 1]? = some y' := ⟨_, List.getElem?_eq_getElem (by rw [HXS.out.2.2.2.2.2.2]; omega)⟩
          have HY := hid (And.intro hy hy')
          have HR2 : Hid _ := hid ((rowsL_step hy hy' out last).symm.trans HR.out)
          obtain ⟨rfl, -⟩ := vi_at HXS.out.2.1 hy
          clear HR hy hy'
          obtain ⟨rowF, hrowF⟩ : ∃ rowF, rowF = rowL (fun x => wantL f l l' x y) y y' xs [] := ⟨_, rfl⟩
          rw [← hrowF] at HR2
          have HRF : Hid (rowL (fun x => wantL f l l' x y) y y' (xs.drop 0) [] = rowF) := by rw [hrowF]; rfl
          clear hrowF
          go_wp2
          go_loopg [14, 15] xn (fun g v14 v15 wr => ∃ i ro rn rc rb roff row, i ≤ xn ∧ g = xn - i ∧ v15 = .int .i64 (i : Nat) ∧ v14 = .slice ro rn rc ∧ Ow wj.heap.size wr ro rn rc rb roff row ∧ Below wj.heap.size wj wr ∧ row.length ≤ i ∧ rowL (fun x => wantL f l l' x y) y y' (xs.drop i) row = rowF)
          case atStart => exact ⟨0, _, _, _, 0, 0, [], Nat.zero_le _, rfl, rfl, rfl, oz_nil _ _ _ _, Below.refl _ _, Nat.le_refl _, HRF.out⟩
          case round =>
            clear HRF
            obtain ⟨i, ro, rn, rc, rb, roff, row, hi, rfl, rfl, rfl, hRo, hRB, hrl, hrow⟩ := hrel
            have hrn : rn ≤ i := by rw [← vw_len hRo.v]; exact hrl
            have hBb : Below wb.heap.size wb wr := HO.out.2.1.trans (hRB.mono HO.out.2.1.size)
            have HRR : Hid (Ow wj.heap.size wr ro rn rc rb roff row ∧ Below wj.heap.size wj wr ∧ row.length = rn ∧ Below wb.heap.size wb wr) := ⟨hRo, hRB, vw_len hRo.v, hBb⟩
            have HRW := hid hrow
            clear hRo hRB hrl hrow hBb
            by_cases hi1 : i + 1 < xn
            · have hiz : (i : Int) + 1 < (xn : Int) := by omega
              have hiz0 : (i : Int) < (xn : Int) := by omega
              have hjz0 : (j : Int) < (yn : Int) := by omega
              obtain ⟨x, hx⟩ : ∃ x, xs[i]? = some x := ⟨_, List.getElem?_eq_getElem (by rw [HXS.out.2.2.2.2.2.1]; omega)⟩
              obtain ⟨x', hx'⟩ : ∃ x', xs[i + 1]? = some x' := ⟨_, List.getElem?_eq_getElem (by rw [HXS.out.2.2.2.2.2.1]; omega)⟩
              have HRS := hid ((rowL_step hx hx' row).symm.trans HRW.out)
              obtain ⟨rfl, cx⟩ := vi_at (HXS.out.1.below HRR.out.2.2.2) hx
              obtain ⟨-, cx'⟩ := vi_at (HXS.out.1.below HRR.out.2.2.2) hx'
              obtain ⟨-, cy⟩ := vi_at (HXS.out.2.1.below HRR.out.2.2.2) HY.out.1
              obtain ⟨-, cy'⟩ := vi_at (HXS.out.2.1.below HRR.out.2.2.2) HY.out.2
              have hS : Sv wr xb (xoff + i) yb (yoff + j) (.int .i64 x) (.int .i64 y) wr := ⟨⟨cx, cy⟩, Below.refl _ _⟩
              clear HRW hx hx'
              rcases hw : wantL f l l' x y with _ | _
              · have HW := hid hw
                rw [hw] at HRS
                clear hw cx' cy'
                as_aux_lemma =>
                  go_wp2
                  go_region_held3 (fun w' => (w'.cell? ⟨xb, xoff + i, none⟩ = some (.int .i64 x) ∧ w'.cell? ⟨yb, yoff + j, none⟩ = some (.int .i64 y)) ∧ Below wr.heap.size wr w') (repeat (first | with_reducible assumption | with_reducible refine sv_drew ?_ | with_reducible refine sv_below ?_ ‹_›))
                    ((first
                      | (go_at_call 19; with_reducible refine Calls.mono (want_any how f HF.out wr ao n c b off l ao' n' c' b' off' l' x y wr.drew (HXS.out.2.2.1.below HRR.out.2.2.2.drew) (HXS.out.2.2.2.1.below HRR.out.2.2.2.drew)) ?_; rintro e w3 ⟨rfl, hb3⟩; rw [HW.out]; have HB3 := hid hb3)))
                  clear hS
                  go_wp2
                  go_roundg (xn - (i + 1))
                  case measure => omega
                  case rel =>
                    have hB4 := (HRR.out.2.1.drew).trans (HB3.out.mono HRR.out.2.1.size)
                    exact ⟨i + 1, _, _, _, rb, roff, row, by omega, rfl, by simp, rfl, (HRR.out.1.below (Below.refl _ _).drew).below HB3.out, hB4, by rw [HRR.out.2.2.1]; omega, HRS.out⟩
              · have HW := hid hw
                rw [hw] at HRS
                clear hw
                have hbx : xb < wr.heap.size := World.block_lt_of_cell? _ _ cx
                have hby : yb < wr.heap.size := World.block_lt_of_cell? _ _ cy
                as_aux_lemma =>
                  go_wp2
                  go_region_held3 (fun w' => (w'.cell? ⟨xb, xoff + i, none⟩ = some (.int .i64 x) ∧ w'.cell? ⟨yb, yoff + j, none⟩ = some (.int .i64 y)) ∧ Below wr.heap.size wr w') (repeat (first | with_reducible assumption | with_reducible refine sv_drew ?_ | with_reducible refine sv_below ?_ ‹_›))
                    ((first
                      | (go_at_call 19; with_reducible refine Calls.mono (want_any how f HF.out wr ao n c b off l ao' n' c' b' off' l' x y wr.drew (HXS.out.2.2.1.below HRR.out.2.2.2.drew) (HXS.out.2.2.2.1.below HRR.out.2.2.2.drew)) ?_; rintro e w3 ⟨rfl, hb3⟩; rw [HW.out]; have HB3 := hid hb3)))
                  clear hS
                  have kx := (HB3.out.cell (p := ⟨xb, xoff + i, none⟩) hbx).trans cx
                  have kx' := (HB3.out.cell (p := ⟨xb, xoff + (i + 1), none⟩) hbx).trans cx'
                  have ky := (HB3.out.cell (p := ⟨yb, yoff + j, none⟩) hby).trans cy
                  have ky' := (HB3.out.cell (p := ⟨yb, yoff + (j + 1), none⟩) hby).trans cy'
                  have HR3 : Hid (Ow wj.heap.size w3 ro rn rc rb roff row ∧ Below wj.heap.size wj w3) := hid ⟨(HRR.out.1.below (Below.refl _ _).drew).below HB3.out, (HRR.out.2.1.drew).trans (HB3.out.mono HRR.out.2.1.size)⟩
                  clear cx cx' cy cy'
                  rcases Nat.eq_zero_or_pos rn with h0 | h0
                  · subst h0
                    rw [if_pos trivial, row_none HRR.out.2.2.1 x, if_neg (by simp)] at HRS
                    as_aux_lemma =>
                      go_wp2
                      go_quiet (fail)
                      go_wp2
                      obtain ⟨b2, off2, hA⟩ := app_rect (w := w3.drewN (nq + 1)) (oz_drewN HR3.out.1 (nq + 1)) HR3.out.2.size (by omega) ⟨x, y, x', y'⟩
                      have hF : Fine Tryd.prog #[26, 26] 26 ((w3.drewN (nq + 1)).alloc (.cells #[.int .i64 x, .int .i64 y, .int .i64 x', .int .i64 y'] 34)) (.slice ro 0 rc) (.slice (some ⟨w3.heap.size, 0, none⟩) 1 1) 1 := hA.fine
                      have HA := hid hA
                      clear hA
                      go_region
                      go_wp2
                      go_roundg (xn - (i + 1))
                      case measure => omega
                      case rel =>
                        have hO4 := ow_app HA.out.own
                        have hB4 := ((below_drewN HR3.out.2 (nq + 1)).alloc (below_drewN HR3.out.2 (nq + 1)).size _).trans HA.out.below
                        refine ⟨i + 1, _, _, _, b2, off2, row ++ [⟨x, y, x', y'⟩], by omega, rfl, by simp, rfl, by simpa using hO4, hB4, ?_, ?_⟩
                        · rw [List.length_append, HRR.out.2.2.1]; simp only [List.length_cons, List.length_nil]; omega
                        · exact HRS.out
                  · obtain ⟨m, rfl⟩ : ∃ m, rn = m + 1 := ⟨rn - 1, by omega⟩
                    obtain ⟨r, hr⟩ : ∃ r, row[m]? = some r := ⟨_, List.getElem?_eq_getElem (by rw [HRR.out.2.2.1]; omega)⟩
                    obtain ⟨rfl, -, -, q2, -⟩ := vw_at HR3.out.1.v hr
                    have fz := (ow_at HR3.out.1 hr 2 (by omega)).1
                    have hle := (ow_at HR3.out.1 hr 2 (by omega)).2
                    have hm0 : (m : Int) < ((m + 1 : Nat) : Int) := by omega
                    rw [if_pos trivial, lastX1_at HRR.out.2.2.1 hr, setX1_at HRR.out.2.2.1 hr] at HRS
                    by_cases hq : r.x1 = x
                    · rw [decide_eq_true hq, if_pos rfl] at HRS
                      rw [hq] at q2
                      have HRr := hid hr
                      clear hq hr
                      as_aux_lemma =>
                        go_wp2
                        go_quiet (fail)
                        go_wp2
                        go_roundg (xn - (i + 1))
                        case measure => omega
                        case rel =>
                          refine ⟨i + 1, _, _, _, rb, roff, _, by omega, rfl, by simp, rfl, ow_set2 (oz_drewN HR3.out.1 nq) (r := r) HRr.out x', (below_drewN HR3.out.2 nq).setCell (p := ⟨rb, roff + m * 4 + 2, none⟩) hle _, ?_, HRS.out⟩
                          · rw [List.length_set, HRR.out.2.2.1]; omega
                    · rw [decide_eq_false hq, if_neg (by simp)] at HRS
                      have d1 : (r.x1 == x) = false := by simpa using hq
                      clear hq hr
                      as_aux_lemma =>
                        go_wp2
                        go_quiet (fail)
                        go_wp2
                        obtain ⟨b2, off2, hA⟩ := app_rect (w := w3.drewN (nq + 1)) (oz_drewN HR3.out.1 (nq + 1)) HR3.out.2.size (by omega) ⟨x, y, x', y'⟩
                        have hF : Fine Tryd.prog #[26, 26] 26 ((w3.drewN (nq + 1)).alloc (.cells #[.int .i64 x, .int .i64 y, .int .i64 x', .int .i64 y'] 34)) (.slice (some ⟨rb, roff, none⟩) (m + 1) rc) (.slice (some ⟨w3.heap.size, 0, none⟩) 1 1) (m + 1 + 1) := hA.fine
                        have HA := hid hA
                        clear hA
                        go_region
                        go_wp2
                        go_roundg (xn - (i + 1))
                        case measure => omega
                        case rel =>
                          have hO4 := ow_app HA.out.own
                          have hB4 := ((below_drewN HR3.out.2 (nq + 1)).alloc (below_drewN HR3.out.2 (nq + 1)).size _).trans HA.out.below
                          refine ⟨i + 1, _, _, _, b2, off2, row ++ [⟨x, y, x', y'⟩], by omega, rfl, by simp, rfl, by simpa using hO4, hB4, ?_, ?_⟩
                          · rw [List.length_append, HRR.out.2.2.1]; simp only [List.length_cons, List.length_nil]; omega
                          · exact HRS.out
            · have hx1 : xn ≤ i + 1 := by omega
              have HRE : Hid (row = rowF) := hid ((rowL_done (by rw [HXS.out.2.2.2.2.2.1]; exact hx1) row).symm.trans HRW.out)
              have hiz : ¬ ((i : Int) + 1 < (xn : Int)) := by omega
              obtain ⟨we, rfl⟩ : ∃ we, we = wr := ⟨wr, rfl⟩
              have HOut : Hid (Ow wb.heap.size we oo on oc ob ooff out ∧ Below wb.heap.size wb we) := ⟨HO.out.1.below HRR.out.2.1, HRR.out.2.2.2⟩
              have HRow : Hid (Vw we ro rn rc rb roff row ∧ row.length = rn) := ⟨HRR.out.1.v, HRR.out.2.2.1⟩
              clear HRW HRR
              rcases Nat.eq_zero_or_pos rn with h0 | h0
              · subst h0
                have HC : Hid (¬ (rowF ≠ [] ∧ sameRow y (out.drop last) rowF = true)) := by
                  rintro ⟨h1, -⟩
                  rw [← HRE.out] at h1
                  exact h1 (List.length_eq_zero_iff.1 HRow.out.2)
                as_aux_lemma =>
                  go_wp2
                  refine wp_loop_rounds 1 ?_
                  rw [rounds_succ]
                  go_wp2_with (at_builtin; refine wpList_append_mine _ rfl (.tmp 221) (.tmp 222) 26 26 rfl HOut.out.1 HOut.out.2.size 34 i0 _ 32 Tryd.underlying26 HI.out.1 HI.out.2.1 HI.out.2.2.1 HI.out.2.2.2 rfl rfl _ 0 (flat row) rfl (srcV Tryd.underlying26 HRow.out.1) (by simp only [maxLen]; omega) (by omega) ?_; intro po pc pb poff wz hOz hBz _ _; have HZ := hid (And.intro hOz (HOut.out.2.trans hBz)); clear hOz hBz)
                  go_roundg (yn - (j + 1))
                  case measure => omega
                  case rel =>
                    have h1 := HZ.out.1
                    rw [← flat_append] at h1
                    have h2 := HR2.out
                    rw [if_neg HC.out, ← HRE.out] at h2
                    have h3 := HO.out.2.2.1
                    have h4 := HRow.out.2
                    rw [h3] at h2
                    exact ⟨j + 1, _, _, _, pb, poff, out ++ row, on, Nat.le_of_lt hj1, rfl, by simp, by simp, rfl, h1, HZ.out.2, by rw [List.length_append, h3]; omega, out_le h3 h4 hon (by omega), h2⟩
              · by_cases hs : on = last + rn
                · have d1 : ((on : Int) - (last : Int) == (rn : Int)) = true := by simp; omega
                  have hge : last + rn ≤ on := by omega
                  have hle' : on ≤ last + rn := by omega
                  clear hs
                  have h0z : (0 : Int) < (rn : Int) := by omega
                  obtain rfl := HO.out.1.v.addr (by have := HO.out.1.v.le; omega)
                  obtain rfl := HRow.out.1.addr (by have := HRow.out.1.le; omega)
                  go_wp2
                  go_loopg [17, 18] rn (fun g v17 v18 wr => ∃ i2 sm, i2 ≤ rn ∧ g = rn - i2 ∧ v17 = .bool sm ∧ v18 = .int .i64 (i2 : Nat) ∧ Below we.heap.size we wr ∧ (sm = true ∧ sameRow y (out.drop (last + i2)) (row.drop i2) = sameRow y (out.drop last) row ∨ sm = false ∧ sameRow y (out.drop last) row = false))
                  case atStart => exact ⟨0, true, Nat.zero_le _, rfl, rfl, rfl, Below.refl _ _, .inl ⟨rfl, rfl⟩⟩
                  case round =>
                    obtain ⟨i2, sm, hi2, rfl, rfl, rfl, hB4, hsm⟩ := hrel
                    have HB4 := hid hB4
                    have HOut4 : Hid (Ow wb.heap.size wr (some ⟨ob, ooff, none⟩) on oc ob ooff out ∧ Below wb.heap.size wb wr) := ⟨HOut.out.1.below hB4, HOut.out.2.trans (hB4.mono HOut.out.2.size)⟩
                    have HRow4 : Hid (Vw wr (some ⟨rb, roff, none⟩) rn rc rb roff row) := HRow.out.1.below hB4
                    clear hB4
                    rcases hsm with ⟨rfl, hsame⟩ | ⟨rfl, hsame⟩
                    · by_cases hi3 : i2 < rn
                      · obtain ⟨r, hr⟩ : ∃ r, out[last + i2]? = some r := ⟨_, List.getElem?_eq_getElem (by rw [HO.out.2.2.1]; omega)⟩
                        obtain ⟨s, hs'⟩ : ∃ s, row[i2]? = some s := ⟨_, List.getElem?_eq_getElem (by rw [HRow.out.2]; omega)⟩
                        obtain ⟨-, p0, -, p2, p3⟩ := vw_at HOut4.out.1.v hr
                        obtain ⟨-, q0, -, q2, -⟩ := vw_at HRow4.out hs'
                        obtain ⟨-, cy⟩ := vi_at (HXS.out.2.1.below HOut4.out.2) HY.out.1
                        have hstep := sameRow_step (y := y) hr hs'
                        rw [hsame] at hstep
                        have HSM := hid hstep
                        have hi3z : (i2 : Int) < (rn : Int) := by omega
                        have hlz1 : (last : Int) + (i2 : Int) < (on : Int) := by omega
                        have hjz0 : (j : Int) < (yn : Int) := by omega
                        clear hr hs' hstep hsame
                        by_cases e1 : r.x0 = s.x0
                        · by_cases e2 : r.x1 = s.x1
                          · by_cases e3 : r.y1 = y
                            · rw [if_pos ⟨e1, e2, e3⟩] at HSM
                              rw [e1] at p0
                              rw [e2] at p2
                              rw [e3] at p3
                              clear e1 e2 e3
                              as_aux_lemma =>
                                go_wp2
                                go_quiet (fail)
                                go_wp2
                                go_roundg (rn - (i2 + 1))
                                case measure => omega
                                case rel => exact ⟨i2 + 1, true, hi3, rfl, rfl, by simp, below_drewN HB4.out _, .inl ⟨rfl, HSM.out.symm⟩⟩
                            · rw [if_neg (fun h => e3 h.2.2)] at HSM
                              rw [e1] at p0
                              rw [e2] at p2
                              have f1 : (r.y1 == y) = false := by simpa using e3
                              clear e1 e2 e3
                              as_aux_lemma =>
                                go_wp2
                                go_quiet (fail)
                                go_wp2
                                go_roundg (rn - (i2 + 1))
                                case measure => omega
                                case rel => exact ⟨i2 + 1, false, hi3, rfl, rfl, by simp, below_drewN HB4.out _, .inr ⟨rfl, HSM.out⟩⟩
                          · rw [if_neg (fun h => e2 h.2.1)] at HSM
                            rw [e1] at p0
                            have f1 : (r.x1 == s.x1) = false := by simpa using e2
                            clear e1 e2
                            as_aux_lemma =>
                              go_wp2
                              go_quiet (fail)
                              go_wp2
                              go_roundg (rn - (i2 + 1))
                              case measure => omega
                              case rel => exact ⟨i2 + 1, false, hi3, rfl, rfl, by simp, below_drewN HB4.out _, .inr ⟨rfl, HSM.out⟩⟩
                        · rw [if_neg (fun h => e1 h.1)] at HSM
                          have f1 : (r.x0 == s.x0) = false := by simpa using e1
                          clear e1
                          as_aux_lemma =>
                            go_wp2
                            go_quiet (fail)
                            go_wp2
                            go_roundg (rn - (i2 + 1))
                            case measure => omega
                            case rel => exact ⟨i2 + 1, false, hi3, rfl, rfl, by simp, below_drewN HB4.out _, .inr ⟨rfl, HSM.out⟩⟩
                      · obtain rfl : i2 = rn := by omega
                        have hi3z : ¬ ((i2 : Int) < (i2 : Int)) := by omega
                        have HC : Hid (rowF ≠ [] ∧ sameRow y (out.drop last) rowF = true) := by
                          rw [← HRE.out]
                          refine ⟨fun e => by have := HRow.out.2; rw [e] at this; simp at this; omega, ?_⟩
                          rw [← hsame, List.drop_eq_nil_of_le (by rw [HO.out.2.2.1]; omega), List.drop_eq_nil_of_le (by rw [HRow.out.2]; exact Nat.le_refl _)]
                          rfl
                        clear hsame
                        go_wp2
                        go_loopg [19] (on - last) (fun g v19 wr => ∃ k2 : Nat, k2 ≤ on - last ∧ g = on - last - k2 ∧ v19 = .int .i64 ((last + k2 : Nat)) ∧ Ow wb.heap.size wr (some ⟨ob, ooff, none⟩) on oc ob ooff (ext out y' last k2) ∧ Below wb.heap.size wb wr)
                        case atStart => exact ⟨0, Nat.zero_le _, rfl, by simp, HOut4.out.1, HOut4.out.2⟩
                        case round =>
                          clear HOut4 HRow4 HB4
                          obtain ⟨k2, hk2, rfl, rfl, hO5, hB5⟩ := hrel
                          have HO5 : Hid (Ow wb.heap.size wr (some ⟨ob, ooff, none⟩) on oc ob ooff (ext out y' last k2) ∧ Below wb.heap.size wb wr) := ⟨hO5, hB5⟩
                          clear hO5 hB5
                          by_cases hk3 : k2 < on - last
                          · obtain ⟨r, hr⟩ : ∃ r, (ext out y' last k2)[last + k2]? = some r := ⟨_, List.getElem?_eq_getElem (by rw [ext_len, HO.out.2.2.1]; omega)⟩
                            obtain ⟨-, -, -, -, p3⟩ := vw_at HO5.out.1.v hr
                            have fz := (ow_at HO5.out.1 hr 3 (by omega)).1
                            have hle := (ow_at HO5.out.1 hr 3 (by omega)).2
                            obtain ⟨-, cy'⟩ := vi_at (HXS.out.2.1.below HO5.out.2) HY.out.2
                            have HSET : Hid (Ow wb.heap.size (wr.setCell ⟨ob, ooff + (last + k2) * 4 + 3, none⟩ (.int .i64 y')) (some ⟨ob, ooff, none⟩) on oc ob ooff (ext out y' last (k2 + 1))) := by
                              have h1 := ow_set3 HO5.out.1 hr y'
                              show Ow _ _ _ _ _ _ _ (match (ext out y' last k2)[last + k2]? with
                                | some r => (ext out y' last k2).set (last + k2) ⟨r.x0, r.y0, r.x1, y'⟩
                                | none => ext out y' last k2)
                              rw [hr]
                              exact h1
                            have hkz : ((last : Int) + (k2 : Int)) < (on : Int) := by omega
                            have hkz' : (((last + k2 : Nat) : Int)) < (on : Int) := by omega
                            clear hr
                            as_aux_lemma =>
                              go_wp2
                              go_roundg (on - last - (k2 + 1))
                              case measure => omega
                              case rel => exact ⟨k2 + 1, hk3, rfl, by simp; omega, HSET.out, HO5.out.2.setCell (p := ⟨ob, ooff + (last + k2) * 4 + 3, none⟩) hle _⟩
                          · obtain rfl : k2 = on - last := by omega
                            have hkz : ¬ (((last + (on - last) : Nat) : Int) < (on : Int)) := by omega
                            as_aux_lemma =>
                              go_wp2
                              go_roundg (yn - (j + 1))
                              case measure => omega
                              case rel =>
                                have h2 := HR2.out
                                rw [if_pos HC.out] at h2
                                have h3 := HO.out.2.2.1
                                have h5 := HO5.out.1
                                rw [← h3, ext_all out y' HO.out.2.2.2] at h5
                                rw [h3] at h5
                                refine ⟨j + 1, _, _, _, ob, ooff, _, last, Nat.le_of_lt hj1, rfl, by simp, rfl, rfl, h5, HO5.out.2, ?_, ?_, h2⟩
                                · rw [List.length_append, List.length_take, h3]; omega
                                · rw [List.length_append, List.length_take, List.length_map, List.length_drop, h3]; omega
                    · have HC : Hid (¬ (rowF ≠ [] ∧ sameRow y (out.drop last) rowF = true)) := by
                        rintro ⟨-, h1⟩
                        rw [← HRE.out, hsame] at h1
                        cases h1
                      clear hsame
                      by_cases hi3 : i2 < rn
                      · have hi3z : (i2 : Int) < (rn : Int) := by omega
                        have HRow5 : Hid (Vw wr (some ⟨rb, roff, none⟩) rn rc rb roff row ∧ row.length = rn) := hid ⟨HRow4.out, HRow.out.2⟩
                        as_aux_lemma =>
                          go_wp2_with (at_builtin; refine wpList_append_mine _ rfl (.tmp 221) (.tmp 222) 26 26 rfl HOut4.out.1 HOut4.out.2.size 34 i0 _ 32 Tryd.underlying26 HI.out.1 HI.out.2.1 HI.out.2.2.1 HI.out.2.2.2 rfl rfl _ rn (flat row) rfl (srcV Tryd.underlying26 HRow5.out.1) (by simp only [maxLen]; omega) (by omega) ?_; intro po pc pb poff wz hOz hBz _ _; have HZ := hid (And.intro hOz (HOut4.out.2.trans hBz)); clear hOz hBz)
                          go_roundg (yn - (j + 1))
                          case measure => omega
                          case rel =>
                            have h1 := HZ.out.1
                            rw [← flat_append] at h1
                            have h2 := HR2.out
                            rw [if_neg HC.out, ← HRE.out] at h2
                            have h3 := HO.out.2.2.1
                            have h4 := HRow.out.2
                            rw [h3] at h2
                            exact ⟨j + 1, _, _, _, pb, poff, out ++ row, on, Nat.le_of_lt hj1, rfl, by simp, rfl, rfl, h1, HZ.out.2, by rw [List.length_append, h3]; omega, out_le h3 h4 hon (by omega), h2⟩
                      · have hi3z : ¬ ((i2 : Int) < (rn : Int)) := by omega
                        have HRow5 : Hid (Vw wr (some ⟨rb, roff, none⟩) rn rc rb roff row ∧ row.length = rn) := hid ⟨HRow4.out, HRow.out.2⟩
                        as_aux_lemma =>
                          go_wp2_with (at_builtin; refine wpList_append_mine _ rfl (.tmp 221) (.tmp 222) 26 26 rfl HOut4.out.1 HOut4.out.2.size 34 i0 _ 32 Tryd.underlying26 HI.out.1 HI.out.2.1 HI.out.2.2.1 HI.out.2.2.2 rfl rfl _ rn (flat row) rfl (srcV Tryd.underlying26 HRow5.out.1) (by simp only [maxLen]; omega) (by omega) ?_; intro po pc pb poff wz hOz hBz _ _; have HZ := hid (And.intro hOz (HOut4.out.2.trans hBz)); clear hOz hBz)
                          go_roundg (yn - (j + 1))
                          case measure => omega
                          case rel =>
                            have h1 := HZ.out.1
                            rw [← flat_append] at h1
                            have h2 := HR2.out
                            rw [if_neg HC.out, ← HRE.out] at h2
                            have h3 := HO.out.2.2.1
                            have h4 := HRow.out.2
                            rw [h3] at h2
                            exact ⟨j + 1, _, _, _, pb, poff, out ++ row, on, Nat.le_of_lt hj1, rfl, by simp, rfl, rfl, h1, HZ.out.2, by rw [List.length_append, h3]; omega, out_le h3 h4 hon (by omega), h2⟩
                · have d1 : ((on : Int) - (last : Int) == (rn : Int)) = false := by simp; omega
                  have h0z : (0 : Int) < (rn : Int) := by omega
                  have HC : Hid (¬ (rowF ≠ [] ∧ sameRow y (out.drop last) rowF = true)) := by
                    rintro ⟨-, h1⟩
                    rw [← HRE.out, sameRow_len y (by rw [List.length_drop, HRow.out.2, HO.out.2.2.1]; omega)] at h1
                    cases h1
                  as_aux_lemma =>
                    go_wp2
                    refine wp_loop_rounds 1 ?_
                    rw [rounds_succ]
                    go_wp2_with (at_builtin; refine wpList_append_mine _ rfl (.tmp 221) (.tmp 222) 26 26 rfl HOut.out.1 HOut.out.2.size 34 i0 _ 32 Tryd.underlying26 HI.out.1 HI.out.2.1 HI.out.2.2.1 HI.out.2.2.2 rfl rfl _ rn (flat row) rfl (srcV Tryd.underlying26 HRow.out.1) (by simp only [maxLen]; omega) (by omega) ?_; intro po pc pb poff wz hOz hBz _ _; have HZ := hid (And.intro hOz (HOut.out.2.trans hBz)); clear hOz hBz)
                    go_roundg (yn - (j + 1))
                    case measure => omega
                    case rel =>
                      have h1 := HZ.out.1
                      rw [← flat_append] at h1
                      have h2 := HR2.out
                      rw [if_neg HC.out, ← HRE.out] at h2
                      have h3 := HO.out.2.2.1
                      have h4 := HRow.out.2
                      rw [h3] at h2
                      exact ⟨j + 1, _, _, _, pb, poff, out ++ row, on, Nat.le_of_lt hj1, rfl, by simp, rfl, rfl, h1, HZ.out.2, by rw [List.length_append, h3]; omega, out_le h3 h4 hon (by omega), h2⟩
        · have hjz : ¬ ((j : Int) + 1 < (yn : Int)) := by omega
          have HE2 : Hid (out = setsL f l l') := hid ((rowsL_done (by rw [HXS.out.2.2.2.2.2.2]; omega) out last).symm.trans HR.out)
          clear HR
          as_aux_lemma =>
            go_wp2
            go_ret
            rw [← HE2.out]
            have hs := HXS.out.2.2.2.2.1
            exact ⟨⟨_, _, _, ob, ooff, rfl, HO.out.1.mono hs.size⟩, hs.trans (HO.out.2.1.mono hs.size)⟩
theorem sets_any (how : Int) (f : Bool → Bool → Bool) (hf : how = 0 ∧ f = orF ∨ how = 1 ∧ f = andF ∨ how = 2 ∧ f = cutF) (W : World) (ao : Option Addr) (n c b off : Nat) (l : List R) (ao' : Option Addr) (n' c' b' off' : Nat) (l' : List R) (h : Vw W ao n c b off l) (h' : Vw W ao' n' c' b' off' l') (hN : l.length + l'.length ≤ 1000) :
    Calls Tryd.prog 8 #[.slice ao n c, .slice ao' n' c', .int .i64 how] W fun e w' => RetO W.heap.size w' e (setsL f l l') ∧ Below W.heap.size W w' := by
  refine sets_wide how f hf W ao n c b off l ao' n' c' b' off' l' h h' (by omega) (fun k => ?_) (fun k => ?_)
  · rcases Nat.le_total k (l ++ l').length with hk | hk
    · have := xs_len (l := l ++ l') k hk
      rw [List.length_append] at hk
      omega
    · rw [List.take_of_length_le hk]
      have := xs_len (l := l ++ l') _ (Nat.le_refl _)
      rw [List.take_of_length_le (Nat.le_refl _), List.length_append] at this
      omega
  · rcases Nat.le_total k (l ++ l').length with hk | hk
    · have := ys_len (l := l ++ l') k hk
      rw [List.length_append] at hk
      omega
    · rw [List.take_of_length_le hk]
      have := ys_len (l := l ++ l') _ (Nat.le_refl _)
      rw [List.take_of_length_le (Nat.le_refl _), List.length_append] at this
      omega
end Go.Proofs.YteiihgoobhlkbaaDoor.Rg
