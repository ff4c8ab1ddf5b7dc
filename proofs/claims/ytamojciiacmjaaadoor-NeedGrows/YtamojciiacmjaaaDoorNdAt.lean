/- What is needed of a place, by the document: the contract. -/
import Derived.Test.YtamojciiacmjaaaDoorNdRefOf
import Derived.Test.YtamojciiacmjaaaDoorNdSol
namespace Go.Proofs.YtamojciiacmjaaaDoor
open Num Go.RowKit
open Rg.Num (R empB orN nil moveR grow meet join mvd mx mn cutR Ok Pr boxQ hasB)
set_option linter.unusedVariables false
set_option linter.unusedSimpArgs false

/-- the filter, the rectangle, the answer's cells, and what is joined so far -/
structure Ad (w wr : World) (ao : Option Addr) (n c : Nat) (out : Int) (a b c' d : Int) (r : R) : Prop where
  g : Sg w ao n c out wr
  s : Rg.Rc.Has4 wr (w.heap.size + 1) (.int .i64 a) (.int .i64 b) (.int .i64 c') (.int .i64 d)
  z : Rg.Rc.Has4 wr (w.heap.size + 1 + 1) (.int .i64 0) (.int .i64 0) (.int .i64 0) (.int .i64 0)
  o : Rg.Rc.Has4 wr (w.heap.size + 1 + 1 + 1) (.int .i64 r.x0) (.int .i64 r.y0) (.int .i64 r.x1) (.int .i64 r.y1)
section
variable {w wr w' : World} {ao : Option Addr} {n c : Nat} {out : Int} {a b c' d : Int} {r : R}
theorem Ad.to (h : Ad w wr ao n c out a b c' d r) (hb : Below wr.heap.size wr w') : Ad w w' ao n c out a b c' d r := ⟨sg_below h.g hb, h.s.below hb, h.z.below hb, h.o.below hb⟩
theorem ad_set (h : Ad w wr ao n c out a b c' d r) (u : R) : Ad w ((((wr.setCell ⟨w.heap.size + 1 + 1 + 1, 0, none⟩ (.int .i64 u.x0)).setCell ⟨w.heap.size + 1 + 1 + 1, 1, none⟩ (.int .i64 u.y0)).setCell ⟨w.heap.size + 1 + 1 + 1, 2, none⟩ (.int .i64 u.x1)).setCell ⟨w.heap.size + 1 + 1 + 1, 3, none⟩ (.int .i64 u.y1)) ao n c out a b c' d u := by
  have hb := but_set4 wr (w.heap.size + 1 + 1 + 1) 0 1 2 3 (.int .i64 u.x0) (.int .i64 u.y0) (.int .i64 u.x1) (.int .i64 u.y1)
  have hw : w.heap.size < wr.heap.size := World.block_lt_of_cell? _ _ h.g.1.1
  have hc : ∀ j, _ := fun j => World.cell?_of_block (a := ⟨w.heap.size, j, none⟩) (hb.block w.heap.size hw (by omega))
  exact ⟨⟨⟨(hc 0).trans h.g.1.1, (hc 1).trans h.g.1.2⟩, low4 h.g.2 (by omega) _ _ _ _⟩, has4_else h.s hb (by omega), has4_else h.z hb (by omega), Rg.has4_set h.o _ _ _ _⟩
theorem ad_eq {r' : R} (h : Ad w wr ao n c out a b c' d r) (e : r' = r) : Ad w wr ao n c out a b c' d r' := by subst e; exact h
theorem ad_new (w : World) (ao : Option Addr) (n c : Nat) (out : Int) (a b c' d : Int) : Ad w ((((w.alloc (.cells #[.slice ao n c, .int .i64 out] 36)).alloc (.cells #[.int .i64 a, .int .i64 b, .int .i64 c', .int .i64 d] 26)).alloc (.cells #[.int .i64 0, .int .i64 0, .int .i64 0, .int .i64 0] 26)).alloc (.cells #[.int .i64 0, .int .i64 0, .int .i64 0, .int .i64 0] 26)) ao n c out a b c' d nil := by
  have h0 := sg_new w ao n c out 36
  have z0 : (w.alloc (.cells #[.slice ao n c, .int .i64 out] 36)).heap.size = w.heap.size + 1 := by simp
  generalize (w.alloc (.cells #[.slice ao n c, .int .i64 out] 36)) = W0 at *
  have h1 := Rg.Rc.Has4.new (W := W0) (k := w.heap.size + 1) z0.symm (.int .i64 a) (.int .i64 b) (.int .i64 c') (.int .i64 d) 26
  have b1 := al (W := W0) (.cells #[.int .i64 a, .int .i64 b, .int .i64 c', .int .i64 d] 26)
  have z1 : (W0.alloc (.cells #[.int .i64 a, .int .i64 b, .int .i64 c', .int .i64 d] 26)).heap.size = w.heap.size + 1 + 1 := by simp [z0]
  generalize (W0.alloc (.cells #[.int .i64 a, .int .i64 b, .int .i64 c', .int .i64 d] 26)) = W1 at *
  have h2 := Rg.Rc.Has4.new (W := W1) (k := w.heap.size + 1 + 1) z1.symm (.int .i64 0) (.int .i64 0) (.int .i64 0) (.int .i64 0) 26
  have b2 := al (W := W1) (.cells #[.int .i64 0, .int .i64 0, .int .i64 0, .int .i64 0] 26)
  have z2 : (W1.alloc (.cells #[.int .i64 0, .int .i64 0, .int .i64 0, .int .i64 0] 26)).heap.size = w.heap.size + 1 + 1 + 1 := by simp [z1]
  generalize (W1.alloc (.cells #[.int .i64 0, .int .i64 0, .int .i64 0, .int .i64 0] 26)) = W2 at *
  have h3 := Rg.Rc.Has4.new (W := W2) (k := w.heap.size + 1 + 1 + 1) z2.symm (.int .i64 0) (.int .i64 0) (.int .i64 0) (.int .i64 0) 26
  have b3 := al (W := W2) (.cells #[.int .i64 0, .int .i64 0, .int .i64 0, .int .i64 0] 26)
  exact ⟨sg_below (sg_below (sg_below h0 b1) b2) b3, (h1.below b2).below b3, h2.below b3, h3⟩
theorem rw_but {B g : Nat} {W w : World} {ao : Option Addr} {n c b off : Nat} {l : List R} (h : Rg.Ow B W ao n c b off l) (hb : But g W w) (hg : g < B) : Rg.Ow B w ao n c b off l :=
  Rg.Oz.block h hb.size fun hc => hb.block b (h.new hc).2 (by have := (h.new hc).1; omega)
end
/-- a node, a rectangle of what is known, the filter's slice, and all that was there -/
abbrev Sk (w : World) (ao : Option Addr) (n c b o : Nat) (op : Int) (ai : Option Addr) (ni ci : Nat) (ap : Option Addr) (np cp : Nat) (kb ko : Nat) (u : R) (w' : World) : Prop := (w'.cell? ⟨w.heap.size, 0, none⟩ = some (.slice ao n c) ∧ w'.cell? ⟨b, o, none⟩ = some (.int .i64 op) ∧ w'.cell? ⟨b, o + 1, none⟩ = some (.slice ai ni ci) ∧ w'.cell? ⟨b, o + 2, none⟩ = some (.slice ap np cp) ∧ w'.cell? ⟨kb, ko, none⟩ = some (.int .i64 u.x0) ∧ w'.cell? ⟨kb, ko + 1, none⟩ = some (.int .i64 u.y0) ∧ w'.cell? ⟨kb, ko + 2, none⟩ = some (.int .i64 u.x1) ∧ w'.cell? ⟨kb, ko + 3, none⟩ = some (.int .i64 u.y1)) ∧ Below w.heap.size w w'
section
variable {w : World} {ao : Option Addr} {n c b o : Nat} {op : Int} {ai : Option Addr} {ni ci : Nat} {ap : Option Addr} {np cp : Nat} {kb ko : Nat} {u : R} {w' : World}
theorem sk_below {w2 : World} (h : Sk w ao n c b o op ai ni ci ap np cp kb ko u w') (hb : Below w'.heap.size w' w2) : Sk w ao n c b o op ai ni ci ap np cp kb ko u w2 := by
  obtain ⟨⟨h0, h1, h2, h3, h4, h5, h6, h7⟩, hB⟩ := h
  exact ⟨⟨cell_below hb h0, cell_below hb h1, cell_below hb h2, cell_below hb h3, cell_below hb h4, cell_below hb h5, cell_below hb h6, cell_below hb h7⟩, via hB hb⟩
theorem sk_drew (h : Sk w ao n c b o op ai ni ci ap np cp kb ko u w') : Sk w ao n c b o op ai ni ci ap np cp kb ko u w'.drew := ⟨h.1, h.2.drew⟩
end

set_option maxRecDepth 100000 in
set_option maxHeartbeats 2000000 in
theorem at_any (ao : Option Addr) (n c b off : Nat) (L : List Nv) (out : Int) (p q r s : Int) (ko : Option Addr) (kn kc kb koff : Nat) (K : List R) (place : Int) (w : World) (h : Vn w ao n c b off L) (hf : Few n L) (hK : Rg.Vw w ko kn kc kb koff K) (hKn : kn = n) (hrn : ∀ v, v ∈ L → Rn v.op v.l v.p) (hKo : ∀ r, r ∈ K → Ok r) :
    Calls Tryd.prog 38 #[.agg #[.slice ao n c, .int .i64 out], .agg #[.int .i64 p, .int .i64 q, .int .i64 r, .int .i64 s], .slice ko kn kc, .int .i64 place] w fun e w' => e = .returned (.agg #[.int .i64 (atG L out ⟨p, q, r, s⟩ (fK K) place).x0, .int .i64 (atG L out ⟨p, q, r, s⟩ (fK K) place).y0, .int .i64 (atG L out ⟨p, q, r, s⟩ (fK K) place).x1, .int .i64 (atG L out ⟨p, q, r, s⟩ (fK K) place).y1]) ∧ Below w.heap.size w w' := by
  subst hKn
  have hl := vn_len h
  have hn1 := hf.n
  have hkl := Rg.vw_len hK
  have H0 := hid (ad_new w ao kn c out p q r s)
  have HV := hid (And.intro h (And.intro hf (And.intro hl (And.intro hrn (And.intro hK (And.intro hKo hkl))))))
  obtain ⟨Z, hZ⟩ : ∃ Z, Z = atG L out ⟨p, q, r, s⟩ (fK K) place := ⟨_, rfl⟩
  rw [← hZ]
  obtain ⟨Y, hY⟩ : ∃ Y, Y = atS out place ⟨p, q, r, s⟩ := ⟨_, rfl⟩
  have HZ : Hid (Z = atR L (fK K) place Y kn) := hid (by rw [hZ, hY]; unfold atG; rw [hl])
  clear h hf hl hrn hK hKo hkl hZ
  have hloop : ∀ wr, Ad w wr ao kn c out p q r s Y → True := fun _ _ => trivial
  clear hloop
  by_cases ho : place = out
  · have hYe : Hid (Y = join ⟨p, q, r, s⟩ ⟨0, 0, 0, 0⟩) := hid (by rw [hY]; unfold atS; rw [if_pos ho]; rfl)
    subst ho
    clear hY
    obtain ⟨g0, g1⟩ := H0.out.g.1
    obtain ⟨a0, a1, a2, a3, af⟩ := id H0.out.s
    go_enter Tryd.func38, Tryd.ntmps38
    go_wp2_with (go_at_call 19; with_reducible refine Calls.mono (Rg.Rc.refJoin_any p q r s 0 0 0 0 _) ?_; rintro e w1 ⟨rfl, hb⟩; have H1 := hid (H0.out.to hb); clear hb g0 g1 a0 a1 a2 a3 af; obtain ⟨o0, o1, o2, o3, of⟩ := id H1.out.o)
    have HA := hid (ad_eq (ad_set H1.out (join ⟨p, q, r, s⟩ ⟨0, 0, 0, 0⟩)) hYe.out)
    go_loopg [10, 11, 12] kn (fun g v10 v11 v12 wr => ∃ i : Nat, i ≤ kn ∧ g = kn - i ∧ v10 = .int .i64 i ∧ Ad w wr ao kn c place p q r s (atR L (fK K) place Y i))
    case atStart => exact ⟨0, Nat.zero_le _, rfl, rfl, HA.out⟩
    case round =>
      obtain ⟨i, hi, rfl, rfl, hA⟩ := hrel
      clear HA
      have HA := hid hA
      by_cases hlt : i < kn
      case neg =>
        obtain rfl : i = kn := by omega
        obtain ⟨g0, g1⟩ := hA.g.1
        obtain ⟨o0, o1, o2, o3, of⟩ := id hA.o
        obtain ⟨z0, z1, z2, z3, zf⟩ := id hA.z
        clear hA hlt
        rw [← HZ.out] at o0 o1 o2 o3
        go_wp2
        obtain ⟨s0, s1, s2, s3⟩ := Rg.Rc.set4 z0 z1 z2 z3 (.int .i64 Z.x0) (.int .i64 Z.y0) (.int .i64 Z.x1) (.int .i64 Z.y1)
        refine bodyPost_ret (v := .agg #[.int .i64 Z.x0, .int .i64 Z.y0, .int .i64 Z.x1, .int .i64 Z.y1]) (by simp [results, Tryd.results38, go_sem, s0, s1, s2, s3]) rfl ⟨rfl, ?_⟩
        exact low4 HA.out.g.2 (by omega) _ _ _ _
      have hlz : (i : Int) < (kn : Int) := by omega
      obtain ⟨v, hv⟩ : ∃ v, L[i]? = some v := ⟨_, List.getElem?_eq_getElem (by rw [HV.out.2.2.1]; exact hlt)⟩
      have hvm := List.mem_of_getElem? hv
      have hni1 := HV.out.2.1.i v hvm
      obtain ⟨rfl, ⟨m0, m1, m2⟩, hvi, hvp⟩ := vn_at (HV.out.1.below hA.g.2) hv
      have hkk : i < K.length := by rw [HV.out.2.2.2.2.2.2]; exact hlt
      obtain ⟨rfl, k0, k1, k2, k3⟩ := Rg.vw_at (Rg.Vz.below HV.out.2.2.2.2.1 hA.g.2) (fK_get hkk)
      have hbb : b < wr.heap.size := World.block_lt_of_cell? _ _ m0
      have hkb : kb < wr.heap.size := World.block_lt_of_cell? _ _ k0
      have HS := hid (atR_step hv (fK K) place Y)
      have HX := hid (And.intro hvi (And.intro (HV.out.2.1.i v hvm) (And.intro hvp (And.intro (HV.out.2.2.2.1 v hvm) (fK_ok HV.out.2.2.2.2.2.1 i)))))
      have HW := hid (And.intro hv (vi_len hvi))
      obtain ⟨U, hU⟩ : ∃ U, U = fK K i := ⟨_, rfl⟩
      rw [← hU] at k0 k1 k2 k3 HS HX
      obtain ⟨g0, g1⟩ := hA.g.1
      have hSk : Sk w (some ⟨b, off, none⟩) kn c b (off + i * 3) v.op v.ai v.ni v.ci v.ap v.np v.cp kb (koff + i * 4) U wr := ⟨⟨g0, m0, m1, m2, k0, k1, k2, k3⟩, hA.g.2⟩
      have HB := hid (Below.refl wr.heap.size wr).drew
      clear hA hvi hvp hv hvm hU
      go_wp2
      go_region_held3 (fun w' => (w'.cell? ⟨w.heap.size, 0, none⟩ = some (.slice (some ⟨b, off, none⟩) kn c) ∧ w'.cell? ⟨b, off + i * 3, none⟩ = some (.int .i64 v.op) ∧ w'.cell? ⟨b, off + i * 3 + 1, none⟩ = some (.slice v.ai v.ni v.ci) ∧ w'.cell? ⟨b, off + i * 3 + 2, none⟩ = some (.slice v.ap v.np v.cp) ∧ w'.cell? ⟨kb, koff + i * 4, none⟩ = some (.int .i64 U.x0) ∧ w'.cell? ⟨kb, koff + i * 4 + 1, none⟩ = some (.int .i64 U.y0) ∧ w'.cell? ⟨kb, koff + i * 4 + 2, none⟩ = some (.int .i64 U.x1) ∧ w'.cell? ⟨kb, koff + i * 4 + 3, none⟩ = some (.int .i64 U.y1)) ∧ Below w.heap.size w w') (repeat (first | with_reducible assumption | with_reducible refine sk_drew ?_ | with_reducible refine sk_below ?_ ‹_›)) ((first
        | (go_at_call 13; with_reducible refine Calls.mono (refOf_any v.op v.ai v.ni v.ci v.bi v.oi v.l v.ap v.np v.cp v.bp v.ob v.p U.x0 U.y0 U.x1 U.y1 _ (HX.out.1.below HB.out) HX.out.2.1 (HX.out.2.2.1.below HB.out) HX.out.2.2.2.1 HX.out.2.2.2.2) ?_; rintro e w2 ⟨hrr, hb2⟩; obtain ⟨xo, xn, xc, xb, xoff, rfl, hO⟩ := Rg.retO hrr; have H2 := hid (And.intro hO (via HB.out hb2)))))
      have hxn : xn = v.ni := by have := Rg.vw_len H2.out.1.v; rw [List.length_replicate] at this; exact this.symm
      subst hxn
      have HD := hid (HA.out.to H2.out.2)
      have hHs := HD.out.g.1
      have HO2 := hid (And.intro (H2.out.1.mono (show w.heap.size + 1 + 1 + 1 + 1 ≤ wr.drew.heap.size by have h9 : w.heap.size + 1 + 1 + 1 < wr.heap.size := World.block_lt_of_cell? _ _ HA.out.o.c0; show _ ≤ wr.heap.size; omega)) H2.out.1.v)
      obtain ⟨g0, g1⟩ := HD.out.g.1
      clear hHs m0 m1 m2 k0 k1 k2 k3 hSk
      try clear hrr hb2 hO
      go_wp2
      go_loopg [12] v.ni (fun g v12 wr2 => ∃ k : Nat, k ≤ v.ni ∧ g = v.ni - k ∧ v12 = .int .i64 k ∧ Ad w wr2 (some ⟨b, off, none⟩) kn c place p q r s (atN (v.l.take k) (needV v U) place (atR L (fK K) place Y i)) ∧ Rg.Ow (w.heap.size + 1 + 1 + 1 + 1) wr2 xo v.ni xc xb xoff (List.replicate v.ni (needA v.op (nth v.p) ⟨U.x0, U.y0, U.x1, U.y1⟩)))
      case atStart => exact ⟨0, Nat.zero_le _, rfl, rfl, HD.out, HO2.out.1⟩
      case round =>
        obtain ⟨k, hk, rfl, rfl, hA, hO⟩ := hrel
        have HA2 := hid hA
        have HO := hid hO
        by_cases hltk : k < v.ni
        case neg =>
          obtain rfl : v.ni = k := by omega
          obtain ⟨g0, g1⟩ := hA.g.1
          have hall : v.l.take v.ni = v.l := List.take_of_length_le (by rw [HW.out.2]; exact Nat.le_refl _)
          rw [hall, ← HS.out] at HA2
          clear hA hO hall hltk
          go_wp2
          go_roundg (kn - (i + 1))
          case measure => omega
          case rel => exact ⟨i + 1, hlt, rfl, by simp, HA2.out⟩
        have hkz : (k : Int) < (v.ni : Int) := by omega
        obtain ⟨x, hx⟩ : ∃ x, v.l[k]? = some x := ⟨_, List.getElem?_eq_getElem (by rw [HW.out.2]; exact hltk)⟩
        obtain ⟨-, ⟨m0, m1, m2⟩, hvi, hvp⟩ := vn_at (HV.out.1.below hA.g.2) HW.out.1
        obtain ⟨hai, x0⟩ := vi_at hvi hx
        obtain ⟨rfl, y0, y1, y2, y3⟩ := Rg.vw_at hO.v (show (List.replicate v.ni (needA v.op (nth v.p) ⟨U.x0, U.y0, U.x1, U.y1⟩))[k]? = some (needV v U) by rw [List.getElem?_replicate, if_pos hltk]; rfl)
        rw [hai] at m1
        clear hai
        have hxb : xb < wr.heap.size := World.block_lt_of_cell? _ _ y0
        obtain ⟨g0, g1⟩ := hA.g.1
        obtain ⟨o0, o1, o2, o3, of⟩ := id hA.o
        have hob : w.heap.size + 1 + 1 + 1 < wr.heap.size := World.block_lt_of_cell? _ _ o0
        have HT := hid (atN_step hx (needV v U) place (atR L (fK K) place Y i))
        obtain ⟨Q, hQ⟩ : ∃ Q, Q = atN (v.l.take k) (needV v U) place (atR L (fK K) place Y i) := ⟨_, rfl⟩
        rw [← hQ] at o0 o1 o2 o3 HT HA2
        obtain ⟨N, hN⟩ : ∃ N, N = needV v U := ⟨_, rfl⟩
        rw [← hN] at y0 y1 y2 y3
        have HN := hid hN
        clear hA hO hvi hvp hx hQ hN
        by_cases hxp : x = place
        · rw [if_pos hxp] at HT
          rw [hxp] at x0
          clear hxp
          go_wp2
          go_region_with (go_at_call 19; with_reducible refine Calls.mono (Rg.Rc.refJoin_any Q.x0 Q.y0 Q.x1 Q.y1 N.x0 N.y0 N.x1 N.y1 _) ?_; rintro e w3 ⟨rfl, hb⟩; have HB3 := hid (via (Below.refl _ _).drew hb); have H3 := hid (HA2.out.to HB3.out); have H3o := hid (HO.out.below HB3.out); obtain ⟨q0, q1, q2, q3, qf⟩ := id H3.out.o; clear hb)
          all_goals (
            go_wp2
            go_roundg (v.ni - (k + 1))
            case measure => omega
            case rel => exact ⟨k + 1, hltk, rfl, by simp, ad_eq (ad_set H3.out (join ⟨Q.x0, Q.y0, Q.x1, Q.y1⟩ ⟨N.x0, N.y0, N.x1, N.y1⟩)) (by rw [HT.out, HN.out]), rw_but H3o.out (but_set4 _ _ _ _ _ _ _ _ _ _) (by omega)⟩)
        · rw [if_neg hxp] at HT
          have hxd : decide (x = place) = false := decide_eq_false hxp
          have hxe : (x == place) = false := beq_false_of_ne hxp
          go_wp2
          go_roundg (v.ni - (k + 1))
          case measure => omega
          case rel => exact ⟨k + 1, hltk, rfl, by simp, by rw [HT.out]; exact HA2.out, HO.out⟩
  · have hYe : Hid (Y = nil) := hid (by rw [hY]; unfold atS; rw [if_neg ho])
    clear hY
    have hpo : (place == out) = false := beq_false_of_ne ho
    obtain ⟨g0, g1⟩ := H0.out.g.1
    go_enter Tryd.func38, Tryd.ntmps38
    go_wp2
    have HA : Hid (Ad w ((((w.alloc (.cells #[.slice ao kn c, .int .i64 out] 36)).alloc (.cells #[.int .i64 p, .int .i64 q, .int .i64 r, .int .i64 s] 26)).alloc (.cells #[.int .i64 0, .int .i64 0, .int .i64 0, .int .i64 0] 26)).alloc (.cells #[.int .i64 0, .int .i64 0, .int .i64 0, .int .i64 0] 26)) ao kn c out p q r s Y) := hid (by rw [hYe.out]; exact H0.out)
    clear g0 g1
    go_loopg [10, 11, 12] kn (fun g v10 v11 v12 wr => ∃ i : Nat, i ≤ kn ∧ g = kn - i ∧ v10 = .int .i64 i ∧ Ad w wr ao kn c out p q r s (atR L (fK K) place Y i))
    case atStart => exact ⟨0, Nat.zero_le _, rfl, rfl, HA.out⟩
    case round =>
      obtain ⟨i, hi, rfl, rfl, hA⟩ := hrel
      clear HA
      have HA := hid hA
      by_cases hlt : i < kn
      case neg =>
        obtain rfl : i = kn := by omega
        obtain ⟨g0, g1⟩ := hA.g.1
        obtain ⟨o0, o1, o2, o3, of⟩ := id hA.o
        obtain ⟨z0, z1, z2, z3, zf⟩ := id hA.z
        clear hA hlt
        rw [← HZ.out] at o0 o1 o2 o3
        go_wp2
        obtain ⟨s0, s1, s2, s3⟩ := Rg.Rc.set4 z0 z1 z2 z3 (.int .i64 Z.x0) (.int .i64 Z.y0) (.int .i64 Z.x1) (.int .i64 Z.y1)
        refine bodyPost_ret (v := .agg #[.int .i64 Z.x0, .int .i64 Z.y0, .int .i64 Z.x1, .int .i64 Z.y1]) (by simp [results, Tryd.results38, go_sem, s0, s1, s2, s3]) rfl ⟨rfl, ?_⟩
        exact low4 HA.out.g.2 (by omega) _ _ _ _
      have hlz : (i : Int) < (kn : Int) := by omega
      obtain ⟨v, hv⟩ : ∃ v, L[i]? = some v := ⟨_, List.getElem?_eq_getElem (by rw [HV.out.2.2.1]; exact hlt)⟩
      have hvm := List.mem_of_getElem? hv
      have hni1 := HV.out.2.1.i v hvm
      obtain ⟨rfl, ⟨m0, m1, m2⟩, hvi, hvp⟩ := vn_at (HV.out.1.below hA.g.2) hv
      have hkk : i < K.length := by rw [HV.out.2.2.2.2.2.2]; exact hlt
      obtain ⟨rfl, k0, k1, k2, k3⟩ := Rg.vw_at (Rg.Vz.below HV.out.2.2.2.2.1 hA.g.2) (fK_get hkk)
      have hbb : b < wr.heap.size := World.block_lt_of_cell? _ _ m0
      have hkb : kb < wr.heap.size := World.block_lt_of_cell? _ _ k0
      have HS := hid (atR_step hv (fK K) place Y)
      have HX := hid (And.intro hvi (And.intro (HV.out.2.1.i v hvm) (And.intro hvp (And.intro (HV.out.2.2.2.1 v hvm) (fK_ok HV.out.2.2.2.2.2.1 i)))))
      have HW := hid (And.intro hv (vi_len hvi))
      obtain ⟨U, hU⟩ : ∃ U, U = fK K i := ⟨_, rfl⟩
      rw [← hU] at k0 k1 k2 k3 HS HX
      obtain ⟨g0, g1⟩ := hA.g.1
      have hSk : Sk w (some ⟨b, off, none⟩) kn c b (off + i * 3) v.op v.ai v.ni v.ci v.ap v.np v.cp kb (koff + i * 4) U wr := ⟨⟨g0, m0, m1, m2, k0, k1, k2, k3⟩, hA.g.2⟩
      have HB := hid (Below.refl wr.heap.size wr).drew
      clear hA hvi hvp hv hvm hU
      go_wp2
      go_region_held3 (fun w' => (w'.cell? ⟨w.heap.size, 0, none⟩ = some (.slice (some ⟨b, off, none⟩) kn c) ∧ w'.cell? ⟨b, off + i * 3, none⟩ = some (.int .i64 v.op) ∧ w'.cell? ⟨b, off + i * 3 + 1, none⟩ = some (.slice v.ai v.ni v.ci) ∧ w'.cell? ⟨b, off + i * 3 + 2, none⟩ = some (.slice v.ap v.np v.cp) ∧ w'.cell? ⟨kb, koff + i * 4, none⟩ = some (.int .i64 U.x0) ∧ w'.cell? ⟨kb, koff + i * 4 + 1, none⟩ = some (.int .i64 U.y0) ∧ w'.cell? ⟨kb, koff + i * 4 + 2, none⟩ = some (.int .i64 U.x1) ∧ w'.cell? ⟨kb, koff + i * 4 + 3, none⟩ = some (.int .i64 U.y1)) ∧ Below w.heap.size w w') (repeat (first | with_reducible assumption | with_reducible refine sk_drew ?_ | with_reducible refine sk_below ?_ ‹_›)) ((first
        | (go_at_call 13; with_reducible refine Calls.mono (refOf_any v.op v.ai v.ni v.ci v.bi v.oi v.l v.ap v.np v.cp v.bp v.ob v.p U.x0 U.y0 U.x1 U.y1 _ (HX.out.1.below HB.out) HX.out.2.1 (HX.out.2.2.1.below HB.out) HX.out.2.2.2.1 HX.out.2.2.2.2) ?_; rintro e w2 ⟨hrr, hb2⟩; obtain ⟨xo, xn, xc, xb, xoff, rfl, hO⟩ := Rg.retO hrr; have H2 := hid (And.intro hO (via HB.out hb2)))))
      have hxn : xn = v.ni := by have := Rg.vw_len H2.out.1.v; rw [List.length_replicate] at this; exact this.symm
      subst hxn
      have HD := hid (HA.out.to H2.out.2)
      have hHs := HD.out.g.1
      have HO2 := hid (And.intro (H2.out.1.mono (show w.heap.size + 1 + 1 + 1 + 1 ≤ wr.drew.heap.size by have h9 : w.heap.size + 1 + 1 + 1 < wr.heap.size := World.block_lt_of_cell? _ _ HA.out.o.c0; show _ ≤ wr.heap.size; omega)) H2.out.1.v)
      obtain ⟨g0, g1⟩ := HD.out.g.1
      clear hHs m0 m1 m2 k0 k1 k2 k3 hSk
      try clear hrr hb2 hO
      go_wp2
      go_loopg [12] v.ni (fun g v12 wr2 => ∃ k : Nat, k ≤ v.ni ∧ g = v.ni - k ∧ v12 = .int .i64 k ∧ Ad w wr2 (some ⟨b, off, none⟩) kn c out p q r s (atN (v.l.take k) (needV v U) place (atR L (fK K) place Y i)) ∧ Rg.Ow (w.heap.size + 1 + 1 + 1 + 1) wr2 xo v.ni xc xb xoff (List.replicate v.ni (needA v.op (nth v.p) ⟨U.x0, U.y0, U.x1, U.y1⟩)))
      case atStart => exact ⟨0, Nat.zero_le _, rfl, rfl, HD.out, HO2.out.1⟩
      case round =>
        obtain ⟨k, hk, rfl, rfl, hA, hO⟩ := hrel
        have HA2 := hid hA
        have HO := hid hO
        by_cases hltk : k < v.ni
        case neg =>
          obtain rfl : v.ni = k := by omega
          obtain ⟨g0, g1⟩ := hA.g.1
          have hall : v.l.take v.ni = v.l := List.take_of_length_le (by rw [HW.out.2]; exact Nat.le_refl _)
          rw [hall, ← HS.out] at HA2
          clear hA hO hall hltk
          go_wp2
          go_roundg (kn - (i + 1))
          case measure => omega
          case rel => exact ⟨i + 1, hlt, rfl, by simp, HA2.out⟩
        have hkz : (k : Int) < (v.ni : Int) := by omega
        obtain ⟨x, hx⟩ : ∃ x, v.l[k]? = some x := ⟨_, List.getElem?_eq_getElem (by rw [HW.out.2]; exact hltk)⟩
        obtain ⟨-, ⟨m0, m1, m2⟩, hvi, hvp⟩ := vn_at (HV.out.1.below hA.g.2) HW.out.1
        obtain ⟨hai, x0⟩ := vi_at hvi hx
        obtain ⟨rfl, y0, y1, y2, y3⟩ := Rg.vw_at hO.v (show (List.replicate v.ni (needA v.op (nth v.p) ⟨U.x0, U.y0, U.x1, U.y1⟩))[k]? = some (needV v U) by rw [List.getElem?_replicate, if_pos hltk]; rfl)
        rw [hai] at m1
        clear hai
        have hxb : xb < wr.heap.size := World.block_lt_of_cell? _ _ y0
        obtain ⟨g0, g1⟩ := hA.g.1
        obtain ⟨o0, o1, o2, o3, of⟩ := id hA.o
        have hob : w.heap.size + 1 + 1 + 1 < wr.heap.size := World.block_lt_of_cell? _ _ o0
        have HT := hid (atN_step hx (needV v U) place (atR L (fK K) place Y i))
        obtain ⟨Q, hQ⟩ : ∃ Q, Q = atN (v.l.take k) (needV v U) place (atR L (fK K) place Y i) := ⟨_, rfl⟩
        rw [← hQ] at o0 o1 o2 o3 HT HA2
        obtain ⟨N, hN⟩ : ∃ N, N = needV v U := ⟨_, rfl⟩
        rw [← hN] at y0 y1 y2 y3
        have HN := hid hN
        clear hA hO hvi hvp hx hQ hN
        by_cases hxp : x = place
        · rw [if_pos hxp] at HT
          rw [hxp] at x0
          clear hxp
          go_wp2
          go_region_with (go_at_call 19; with_reducible refine Calls.mono (Rg.Rc.refJoin_any Q.x0 Q.y0 Q.x1 Q.y1 N.x0 N.y0 N.x1 N.y1 _) ?_; rintro e w3 ⟨rfl, hb⟩; have HB3 := hid (via (Below.refl _ _).drew hb); have H3 := hid (HA2.out.to HB3.out); have H3o := hid (HO.out.below HB3.out); obtain ⟨q0, q1, q2, q3, qf⟩ := id H3.out.o; clear hb)
          all_goals (
            go_wp2
            go_roundg (v.ni - (k + 1))
            case measure => omega
            case rel => exact ⟨k + 1, hltk, rfl, by simp, ad_eq (ad_set H3.out (join ⟨Q.x0, Q.y0, Q.x1, Q.y1⟩ ⟨N.x0, N.y0, N.x1, N.y1⟩)) (by rw [HT.out, HN.out]), rw_but H3o.out (but_set4 _ _ _ _ _ _ _ _ _ _) (by omega)⟩)
        · rw [if_neg hxp] at HT
          have hxd : decide (x = place) = false := decide_eq_false hxp
          have hxe : (x == place) = false := beq_false_of_ne hxp
          go_wp2
          go_roundg (v.ni - (k + 1))
          case measure => omega
          case rel => exact ⟨k + 1, hltk, rfl, by simp, by rw [HT.out]; exact HA2.out, HO.out⟩
end Go.Proofs.YtamojciiacmjaaaDoor
