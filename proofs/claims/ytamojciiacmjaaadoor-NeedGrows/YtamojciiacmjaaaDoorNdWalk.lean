/- What a filter needs, as the program asks for it: the contract. -/
import Derived.Test.YtamojciiacmjaaaDoorNdAll
import Derived.Test.YtamojciiacmjaaaDoorNdRound
namespace Go.Proofs.YtamojciiacmjaaaDoor
open Num Go.RowKit Go.Shelf
open Rg.Num (R empB orN nil moveR grow meet join mvd mx mn cutR Ok Pr boxQ hasB)
set_option linter.unusedVariables false
set_option linter.unusedSimpArgs false
attribute [local go_sem] Oper.semAt_some

theorem start_len (n : Nat) (out : Int) (want : R) : (startP n out want).1.length = n := (joinK_len _ _ _).trans (by simp)

theorem oks_start {n : Nat} {out : Int} {want : R} (hw : Ok want) : Oks (startP n out want) := ok_joinK hw ⟨fun r hr => by rw [List.eq_of_mem_replicate hr]; exact Rg.Num.ok_nil, Rg.Num.ok_nil⟩ _
theorem oks_step {L : List Nv} (hp : ∀ v, v ∈ L → Pr v.op (nth v.p)) {st : St2} (h : Oks st) (a : Nat) : Oks (stepP L st a) := by
  unfold stepP
  cases hv : L[a]? with
  | none => exact h
  | some v => exact fold_ok (ok_needA (hp v (List.mem_of_getElem? hv)) (fK_ok h.k a)) _ _ h
theorem oks_fold {L : List Nv} (hp : ∀ v, v ∈ L → Pr v.op (nth v.p)) : ∀ (l : List Nat) (st : St2), Oks st → Oks (l.foldl (stepP L) st)
  | [], st, h => h
  | a :: l, st, h => oks_fold hp l _ (oks_step hp h a)
theorem ow_two {B g h : Nat} {W W' : World} {ao : Option Addr} {n c b off : Nat} {l : List R} (hO : Rg.Ow B W ao n c b off l) (ht : Two g h W W') (hg : g < B) (hh : h < B) : Rg.Ow B W' ao n c b off l :=
  Rg.Oz.block hO ht.size fun hc => ht.block b (hO.new hc).2 (by have := (hO.new hc).1; omega) (by have := (hO.new hc).1; omega)

abbrev S6 (W4 : World) (nb ka kn n x : Nat) (op : Int) (ai : Option Addr) (ni ci : Nat) (ap : Option Addr) (np cp : Nat) (U : R) (w' : World) : Prop := (w'.cell? ⟨nb, 0, none⟩ = some (.int .i64 op) ∧ w'.cell? ⟨nb, 1, none⟩ = some (.slice ai ni ci) ∧ w'.cell? ⟨nb, 2, none⟩ = some (.slice ap np cp) ∧ w'.cell? ⟨ka, 0, none⟩ = some (.slice (some ⟨kn, 0, none⟩) n n) ∧ w'.cell? ⟨kn, x * 4, none⟩ = some (.int .i64 U.x0) ∧ w'.cell? ⟨kn, x * 4 + 1, none⟩ = some (.int .i64 U.y0) ∧ w'.cell? ⟨kn, x * 4 + 2, none⟩ = some (.int .i64 U.x1) ∧ w'.cell? ⟨kn, x * 4 + 3, none⟩ = some (.int .i64 U.y1)) ∧ Below W4.heap.size W4 w'
section
variable {W4 : World} {nb ka kn n x : Nat} {op : Int} {ai : Option Addr} {ni ci : Nat} {ap : Option Addr} {np cp : Nat} {U : R} {w' : World}
theorem s6_below {w2 : World} (h : S6 W4 nb ka kn n x op ai ni ci ap np cp U w') (hb : Below w'.heap.size w' w2) : S6 W4 nb ka kn n x op ai ni ci ap np cp U w2 := by
  obtain ⟨⟨h0, h1, h2, h3, h4, h5, h6, h7⟩, hB⟩ := h
  exact ⟨⟨cell_below hb h0, cell_below hb h1, cell_below hb h2, cell_below hb h3, cell_below hb h4, cell_below hb h5, cell_below hb h6, cell_below hb h7⟩, via hB hb⟩
theorem s6_drew (h : S6 W4 nb ka kn n x op ai ni ci ap np cp U w') : S6 W4 nb ka kn n x op ai ni ci ap np cp U w'.drew := s6_below h (Below.refl _ _).drew
end

set_option maxRecDepth 100000 in
set_option maxHeartbeats 2000000 in
theorem allN_any (ao : Option Addr) (n c b off : Nat) (L : List Nv) (out : Int) (p q r s : Int) (w : World) (h : Vn w ao n c b off L) (hf : Few n L) (hrn : ∀ v, v ∈ L → Rn v.op v.l v.p) (hround : roundB (insL L) = false) (hok : Ok ⟨p, q, r, s⟩) (ho : Plc n out) (hi : ∀ v, v ∈ L → ∀ x, x ∈ v.l → Plc n x) (hn0 : 0 < n) :
    Calls Tryd.prog 15 #[.agg #[.slice ao n c, .int .i64 out], .agg #[.int .i64 p, .int .i64 q, .int .i64 r, .int .i64 s]] w fun e w' => (∃ (st : St2) (kb : Nat), e = .returned (.tuple #[.slice (some ⟨kb, 0, none⟩) n n, .agg #[.int .i64 st.2.x0, .int .i64 st.2.y0, .int .i64 st.2.x1, .int .i64 st.2.y1]]) ∧ Rg.Ow w.heap.size w' (some ⟨kb, 0, none⟩) n n kb 0 st.1 ∧ st = (ordG (insL L)).reverse.foldl (stepP L) (startP n out ⟨p, q, r, s⟩)) ∧ Below w.heap.size w w' := by
  have hl := vn_len h
  have hn1 := hf.n
  have hm := Rg.run_zeros n (by omega)
  obtain ⟨W, hW⟩ : ∃ W, W = ((((w.alloc (.cells #[.slice ao n c, .int .i64 out] 36)).alloc (.cells #[.int .i64 p, .int .i64 q, .int .i64 r, .int .i64 s] 26)).alloc (.cells #[.int .i64 0, .int .i64 0, .int .i64 0, .int .i64 0] 26)).alloc (.cells (Rg.zeroCs n) 26)).alloc (.cells #[.slice (some ⟨w.heap.size + 1 + 1 + 1, 0, none⟩) n n, .int .i64 0, .int .i64 0, .int .i64 0, .int .i64 0] 60) := ⟨_, rfl⟩
  obtain ⟨hA, hS⟩ := ak_new w ao n c out p q r s (by omega) W hW
  have C1 := askjoin_any w.heap.size (w.heap.size + 1 + 1 + 1 + 1) (w.heap.size + 1 + 1 + 1) n (List.replicate n nil, nil) out p q r s W hA.a (by simp) ho
  have HV := hid (And.intro h (And.intro hf (And.intro hl (And.intro hrn (And.intro hround (And.intro hok hi))))))
  rw [hW] at C1 hA hS
  have HC := hid C1
  have HA := hid (And.intro hA hS)
  obtain ⟨g0, g1⟩ := And.intro hA.g0 hA.g1
  obtain ⟨a0, a1, a2, a3, af⟩ := id hS
  clear h hf hl hrn hround hok C1 hA hS hW ho hi
  clear W
  refine (callsIn_wide (n := 6)).1 ?_
  refine callsIn_of_wp_marks Tryd.func15 rfl trivial ?_ rfl
  simp only [Tryd.ntmps15, List.size_toArray, List.length_cons, List.length_nil, Nat.reduceAdd, Nat.reduceSub, Array.replicate_succ, Array.replicate_zero, List.push_toArray, List.append_toArray, List.nil_append, List.cons_append]
  gi_wp2_with (first
    | (refine ⟨trivial, ?_⟩; gi_at_call 34; refine (callsIn_wide.2 HC.out).mono ?_; rintro e w1 ⟨rfl, hAsk, hTwo⟩; have H1 := hid (ak_two HA.out.1 hTwo hAsk (start_len n out ⟨p, q, r, s⟩)); clear hAsk hTwo; obtain ⟨g0, g1⟩ := And.intro H1.out.g0 H1.out.g1)
    | (refine ⟨trivial, ?_⟩; gi_at_call 36; refine (callsIn_wide.2 (all_any ao n c b off L out _ (HV.out.1.below H1.out.low) HV.out.2.1)).mono ?_; rintro e w2 ⟨hr, hb⟩; obtain ⟨oo, on, oc, ob, of', rfl, hO⟩ := retI hr; have H2 := hid (And.intro (H1.out.to hb) hO); clear hr hb hO)
    | (refine ⟨trivial, ?_⟩; gi_at_call 35; refine (callsIn_wide.2 (backward_any _ _ _ _)).mono ?_; rintro e w3 ⟨rfl, rfl⟩))
  -- the order, as a list of places
  have hlt : ∀ a, a ∈ ordG (insL L) → a < n := fun a ha => by
    have := (ordG_ord (insL L)).lt a ha
    rw [insL_len, HV.out.2.2.1] at this
    exact this
  obtain ⟨O, hO⟩ : ∃ O : List (Fin n), O.map (fun x => x.val) = ordG (insL L) := ⟨(ordG (insL L)).pmap (fun a h => ⟨a, h⟩) hlt, by rw [List.map_pmap]; exact List.pmap_eq_map .. |>.trans (List.map_id' _)⟩
  have hon : on = O.length := by
    have h1 := vi_len H2.out.2.v
    rw [castL_len, ← hO, List.length_map] at h1
    exact h1.symm
  have hon0 : 0 < on := by
    have h1 := round_iff.1 HV.out.2.2.2.2.1 0 (by rw [insL_len, HV.out.2.2.1]; exact hn0)
    rw [hon]
    rw [← hO] at h1
    obtain ⟨x, hx, -⟩ := List.mem_map.1 h1
    exact List.length_pos_of_mem hx
  have hol : on ≤ 1000 := by
    rw [hon, ← List.length_map (f := fun x : Fin n => x.val), hO]
    have h2 := nodup_len _ (ordG_ord (insL L)).nodup (ordG_ord (insL L)).lt
    rw [insL_len, HV.out.2.2.1] at h2
    omega
  have hcell : ∀ (j : Nat) (x : Fin n), O[j]? = some x → oo = some ⟨ob, of', none⟩ ∧ w2.cell? ⟨ob, of' + j, none⟩ = some (.int .i64 ((x.val : Nat) : Int)) := fun j x hx => by
    refine vi_at H2.out.2.v ?_
    unfold castL
    rw [← hO, List.getElem?_map, List.getElem?_map, hx]
    rfl
  obtain ⟨x0, hx0⟩ : ∃ x, O[0]? = some x := ⟨_, List.getElem?_eq_getElem (by omega)⟩
  obtain rfl := (hcell 0 x0 hx0).1
  have hob : w1.heap.size ≤ ob ∧ ob < w2.heap.size := H2.out.2.new (by have := H2.out.2.v.le; omega)
  have hk1 : w.heap.size + 1 + 1 + 1 + 1 < w1.heap.size := World.block_lt_of_cell? _ _ H1.out.a.s
  have hbx := al (W := w2) (.cells #[.slice (some ⟨ob, of', none⟩) on oc] 22)
  have hBk : Bk (fun x : Fin n => x.val) w2.heap.size ob of' on oc O (w2.alloc (.cells #[.slice (some ⟨ob, of', none⟩) on oc] 22)) := ⟨World.cell?_alloc_new w2 _ _ 0, fun j x hx => cell_below hbx (hcell j x hx).2⟩
  have hA3 : Ak w (w2.alloc (.cells #[.slice (some ⟨ob, of', none⟩) on oc] 22)) ao n c out (startP n out ⟨p, q, r, s⟩) := H2.out.1.to hbx
  have hk2 : w1.heap.size ≤ w2.heap.size := by omega
  have hk3 : (w2.alloc (.cells #[.slice (some ⟨ob, of', none⟩) on oc] 22)).heap.size = w2.heap.size + 1 := by simp
  have HO := hid (And.intro hO (And.intro hon (And.intro hol (And.intro hob (And.intro hBk hA3)))))
  have HK := hid (And.intro hk1 (And.intro hk2 hk3))
  clear hlt hO hon hon0 hol hcell hx0 x0 hob hk1 hbx hBk hA3 hk2 hk3 g0 g1 H1 H2
  refine wpIn_rangeFunc_ownF (F := Fence.wide) (n := 6) rfl (by omega) (gf := 59) (lb := #[.pointer (some ⟨w2.heap.size, 0, none⟩)]) rfl trivial (enters_of Tryd.func59 (by kernel_rfl) rfl)
    (back_stops (fun x : Fin n => x.val) Fence.wide _ trivial rfl (by omega) w2.heap.size ob of' on oc O HO.out.2.1 HO.out.2.2.1 _ (by rw [HK.out.2.2]; omega) (by rw [HK.out.2.2]; have := HO.out.2.2.2.1; omega) HO.out.2.2.2.2.1) (fun h k x => k (h x)) (fun W l o o' hl ho hc _ hB => ⟨cell_kept hB.1 (grownBy_putObj' W l o') (fun r e => by cases e; exact ⟨o, ho, hc⟩), fun j a ha => cell_kept (hB.2 j a ha) (grownBy_putObj' W l o') (fun r e => by cases e; exact ⟨o, ho, hc⟩)⟩) (Below.refl _ _) (fun _ => rfl)
    (fun pre W => Ak w W ao n c out ((pre.map (fun x => x.val)).foldl (stepP L) (startP n out ⟨p, q, r, s⟩)))
    (fun _ _ _ => False)
    (fun pre A B row hs hg hr => ak_kept hs hg (fun k e => ⟨by have h1 := (hr k e).1; have h2 := HK.out.1; have h3 := HK.out.2.1; rw [HK.out.2.2] at h1; omega, (hr k e).2⟩))
    (fun _ _ _ _ _ hs _ _ => hs)
    HO.out.2.2.2.2.2 ?a₁ ?assign ?body ?done ?stop
  case assign =>
    intro l x W K hK
    gi_wp2
    exact hK
  case stop =>
    rintro D c pre W _ _ h _
    exact h.elim
  case done =>
    rintro D xs W hD hxs hA hK
    obtain ⟨st, hst⟩ : ∃ st, st = (xs.map (fun x => x.val)).foldl (stepP L) (startP n out ⟨p, q, r, s⟩) := ⟨_, rfl⟩
    rw [← hst] at hA
    have hse : st = (ordG (insL L)).reverse.foldl (stepP L) (startP n out ⟨p, q, r, s⟩) := by rw [hst, hxs, List.map_reverse, HO.out.1]
    have HSe := hid hse
    have s0 := hA.a.s
    have c0 := hA.a.c0
    have c1 := hA.a.c1
    have c2 := hA.a.c2
    have c3 := hA.a.c3
    obtain ⟨z0, z1, z2, z3, zf⟩ := id hA.z
    have HA := hid hA
    have HK2 := hid (And.intro hK hD)
    clear hst hse hxs hA hK hD
    gi_wp2
    gi_region
    all_goals gi_wp2
    have hDs : w2.heap.size + 1 ≤ D := by have h1 := HK2.out.2; rw [HK.out.2.2] at h1; exact h1
    have hk1 := HK.out.1
    have hk2 := HK.out.2.1
    have hb := but_set4 W (w.heap.size + 1 + 1) 0 1 2 3 (.int .i64 st.2.x0) (.int .i64 st.2.y0) (.int .i64 st.2.x1) (.int .i64 st.2.y1)
    obtain ⟨e0, e1, e2, e3⟩ := Rg.Rc.set4 z0 z1 z2 z3 (.int .i64 st.2.x0) (.int .i64 st.2.y0) (.int .i64 st.2.x1) (.int .i64 st.2.y1)
    have hlow : Below w.heap.size w ((((W.setCell ⟨w.heap.size + 1 + 1, 0, none⟩ (.int .i64 st.2.x0)).setCell ⟨w.heap.size + 1 + 1, 1, none⟩ (.int .i64 st.2.y0)).setCell ⟨w.heap.size + 1 + 1, 2, none⟩ (.int .i64 st.2.x1)).setCell ⟨w.heap.size + 1 + 1, 3, none⟩ (.int .i64 st.2.y1)) := low4 HA.out.low (by omega) _ _ _ _
    have hO5 := rw_but2 HA.out.a.o hb (by omega)
    have hD5 := (hb.block D (Array.getElem?_eq_some_iff.1 HK2.out.1).1 (by omega)).trans HK2.out.1
    obtain ⟨W5, hW5⟩ : ∃ W5, W5 = ((((W.setCell ⟨w.heap.size + 1 + 1, 0, none⟩ (.int .i64 st.2.x0)).setCell ⟨w.heap.size + 1 + 1, 1, none⟩ (.int .i64 st.2.y0)).setCell ⟨w.heap.size + 1 + 1, 2, none⟩ (.int .i64 st.2.x1)).setCell ⟨w.heap.size + 1 + 1, 3, none⟩ (.int .i64 st.2.y1)) := ⟨_, rfl⟩
    rw [← hW5] at e0 e1 e2 e3 hlow hO5 hD5 ⊢
    have hK5 : W5.drew.heap[D]? = some (.deferred (some [])) := hD5
    have hg := grownBy_putObj' W5.drew D (.deferred none)
    have hr : ∀ k, some D = some k → ∃ o : Obj, W5.drew.heap[k]? = some o ∧ o.isCells = false := fun k e => by cases e; exact ⟨_, hK5, rfl⟩
    refine ⟨by simp, .inl ⟨_, _, rfl, run_takeDeferred hK5, ?_⟩⟩
    have f0 := cell_kept (drew_cell e0) hg hr
    have f1 := cell_kept (drew_cell e1) hg hr
    have f2 := cell_kept (drew_cell e2) hg hr
    have f3 := cell_kept (drew_cell e3) hg hr
    refine ⟨.tuple #[.slice (some ⟨w.heap.size + 1 + 1 + 1, 0, none⟩) n n, .agg #[.int .i64 st.2.x0, .int .i64 st.2.y0, .int .i64 st.2.x1, .int .i64 st.2.y1]], by simp [results, Tryd.f15, go_sem, f0, f1, f2, f3], ⟨st, w.heap.size + 1 + 1 + 1, rfl, ?_, HSe.out⟩, ?_⟩
    · obtain ⟨r0, hr0⟩ : ∃ r0, st.1[0]? = some r0 := ⟨_, List.getElem?_eq_getElem (by rw [HA.out.len]; exact hn0)⟩
      obtain ⟨-, d0, -⟩ := Rg.vw_at hO5.v hr0
      exact Rg.Oz.block (Rg.Oz.below hO5 (Below.refl _ _).drew) hg.size fun hc => block_kept (drew_cell d0) hg hr
    · exact hlow.drew.grown hg (by have := hlow.size; exact this) (fun k e => by cases e; omega)
  case body =>
    rintro l pre ⟨x, hx⟩ W hA hlen
    obtain ⟨st, hst⟩ : ∃ st, st = (pre.map (fun x => x.val)).foldl (stepP L) (startP n out ⟨p, q, r, s⟩) := ⟨_, rfl⟩
    have hres : ((pre ++ [(⟨x, hx⟩ : Fin n)]).map (fun x => x.val)).foldl (stepP L) (startP n out ⟨p, q, r, s⟩) = stepP L st x := by rw [List.map_append, List.foldl_append, ← hst]; rfl
    have HRes := hid hres
    have hoks : Oks st := by rw [hst]; exact oks_fold (fun v hv => (HV.out.2.2.2.1 v hv).pr) _ _ (oks_start HV.out.2.2.2.2.2.1)
    rw [← hst] at hA
    clear hres hst hlen
    obtain ⟨v, hv⟩ : ∃ v, L[x]? = some v := ⟨_, List.getElem?_eq_getElem (by rw [HV.out.2.2.1]; exact hx)⟩
    have hvm := List.mem_of_getElem? hv
    obtain ⟨rfl, ⟨m0, m1, m2⟩, hvi, hvp⟩ := vn_at (HV.out.1.below hA.low) hv
    have hni1 := HV.out.2.1.i v hvm
    obtain ⟨-, c0, c1, c2, c3⟩ := Rg.vw_at hA.a.o.v (fK_get (show x < st.1.length by rw [hA.len]; exact hx))
    rw [Nat.zero_add] at c0 c1 c2 c3
    have g0 := hA.g0
    have s0 := hA.a.s
    have hbb : b < W.heap.size := World.block_lt_of_cell? _ _ m0
    have hka : w.heap.size + 1 + 1 + 1 + 1 < W.heap.size := World.block_lt_of_cell? _ _ s0
    have hkn : w.heap.size + 1 + 1 + 1 < W.heap.size := by omega
    have hxz : (x : Int) < (n : Int) := by omega
    have hrv := HV.out.2.2.2.1 v hvm
    have HE := hid (show stepP L st x = v.l.foldl (joinK (needV v (fK st.1 x))) st by unfold stepP; rw [hv])
    have HN := hid (rn_e hrv (fK st.1 x))
    obtain ⟨U, hU⟩ : ∃ U, U = fK st.1 x := ⟨_, rfl⟩
    have hUo : Ok ⟨U.x0, U.y0, U.x1, U.y1⟩ := by rw [hU]; exact fK_ok hoks.k x
    rw [← hU] at c0 c1 c2 c3 HE HN
    have HA := hid hA
    have HX := hid (And.intro hvi (And.intro hni1 (And.intro hvp (And.intro hrv (And.intro hUo (vi_len hvi))))))
    have HI := hid (HV.out.2.2.2.2.2.2 v hvm)
    have HVv := hid hv
    clear hU hUo hA hoks hvi hvp hrv hvm hv
    have hmx : Tryd.prog.follows .mixedOrders = true := by kernel_rfl
    dsimp only
    gi_wp2
    obtain ⟨W4, hW4⟩ : ∃ W4, W4 = W.alloc (.cells #[.int .i64 v.op, .slice v.ai v.ni v.ci, .slice v.ap v.np v.cp] 24) := ⟨_, rfl⟩
    have hnb : Nb W4 W.heap.size v.op v.ai v.ni v.ci v.ap v.np v.cp := by rw [hW4]; exact nb_new _ _ _ _ _ _ _ _ _
    have hB4 : Below W.heap.size W W4 := by rw [hW4]; exact al _
    rw [← hW4]
    have hS6 : S6 W4 W.heap.size (w.heap.size + 1 + 1 + 1 + 1) (w.heap.size + 1 + 1 + 1) n x v.op v.ai v.ni v.ci v.ap v.np v.cp U W4 := ⟨⟨hnb.c0, hnb.c1, hnb.c2, cell_below hB4 s0, cell_below hB4 c0, cell_below hB4 c1, cell_below hB4 c2, cell_below hB4 c3⟩, Below.refl _ _⟩
    have HB4 := hid hB4
    have HNB := hid hnb
    clear hW4 hnb hB4 m0 m1 m2 c0 c1 c2 c3 g0 s0
    refine region_round (S := (fun w' => (w'.cell? ⟨W.heap.size, 0, none⟩ = some (.int .i64 v.op) ∧ w'.cell? ⟨W.heap.size, 1, none⟩ = some (.slice v.ai v.ni v.ci) ∧ w'.cell? ⟨W.heap.size, 2, none⟩ = some (.slice v.ap v.np v.cp) ∧ w'.cell? ⟨w.heap.size + 1 + 1 + 1 + 1, 0, none⟩ = some (.slice (some ⟨w.heap.size + 1 + 1 + 1, 0, none⟩) n n) ∧ w'.cell? ⟨w.heap.size + 1 + 1 + 1, x * 4, none⟩ = some (.int .i64 U.x0) ∧ w'.cell? ⟨w.heap.size + 1 + 1 + 1, x * 4 + 1, none⟩ = some (.int .i64 U.y0) ∧ w'.cell? ⟨w.heap.size + 1 + 1 + 1, x * 4 + 2, none⟩ = some (.int .i64 U.x1) ∧ w'.cell? ⟨w.heap.size + 1 + 1 + 1, x * 4 + 3, none⟩ = some (.int .i64 U.y1)) ∧ Below W4.heap.size W4 w')) (by kernel_rfl) (by kernel_rfl) (by rintro ⟨_, _, h⟩; exact h) ?_ (fun hHeld => ?_)
    · repeat (first | with_reducible assumption | with_reducible refine s6_drew ?_ | with_reducible refine s6_below ?_ ‹_›)
    refine wpAnyH_take (i := 0) (oi := { dst := some 29, op := Op.load 24 (Operand.tmp 8), type := 24, pos := "need.go:28", after := #[], guard := none }) (v := ?_) rfl (by kernel_rfl) (by kernel_rfl) (by kernel_rfl) (fun _ _ _ h => h) (Or.inl ⟨by rfl, ?hy⟩) (by assumption) ?_
    case hy => (intro w hSw; (try dsimp only at hSw); go_simp; first | done | with_reducible rfl)
    try simp only [Act.put, List.setIfInBounds_toArray, List.set_cons_zero, List.set_cons_succ]
    refine wpAnyH_take (i := 1) (oi := { dst := some 30, op := Op.fieldAddr 60 (Operand.tmp 6) 0, type := 0, pos := "need.go:28", after := #[], guard := none }) (v := ?_) rfl (by kernel_rfl) (by kernel_rfl) (by kernel_rfl) (fun _ _ _ h => h) (Or.inl ⟨by rfl, ?hy⟩) (by assumption) ?_
    case hy => (intro w hSw; (try dsimp only at hSw); go_simp; first | done | with_reducible rfl)
    try simp only [Act.put, List.setIfInBounds_toArray, List.set_cons_zero, List.set_cons_succ]
    refine wpAnyH_take (i := 2) (oi := { dst := some 31, op := Op.load 31 (Operand.tmp 30), type := 31, pos := "need.go:28", after := #[{ on := 1, ground := Ground.data }], guard := none }) (v := ?_) rfl (by kernel_rfl) (by kernel_rfl) (by kernel_rfl) (fun _ _ _ h => h) (Or.inl ⟨by rfl, ?hy⟩) (by assumption) ?_
    case hy => (intro w hSw; (try dsimp only at hSw); go_simp; first | done | with_reducible rfl)
    try simp only [Act.put, List.setIfInBounds_toArray, List.set_cons_zero, List.set_cons_succ]
    refine wpAnyH_take (i := 3) (oi := { dst := some 32, op := Op.move (Operand.tmp 7), type := 3, pos := "need.go:28", after := #[], guard := none }) (v := ?_) rfl (by kernel_rfl) (by kernel_rfl) (by kernel_rfl) (fun _ _ _ h => h) (Or.inl ⟨by rfl, ?hy⟩) (by assumption) ?_
    case hy => (intro w hSw; (try dsimp only at hSw); go_simp; first | done | with_reducible rfl)
    try simp only [Act.put, List.setIfInBounds_toArray, List.set_cons_zero, List.set_cons_succ]
    refine wpAnyH_take (i := 4) (oi := { dst := some 33, op := Op.indexAddr 31 (Operand.tmp 31) (Operand.tmp 32), type := 0, pos := "need.go:28", after := #[{ on := 2, ground := Ground.data }, { on := 3, ground := Ground.data }], guard := none }) (v := ?_) rfl (by kernel_rfl) (by kernel_rfl) (by kernel_rfl) (fun _ _ _ h => h) (Or.inl ⟨by rfl, ?hy⟩) (by assumption) ?_
    case hy => (intro w hSw; (try dsimp only at hSw); go_simp; first | done | with_reducible rfl)
    try simp only [Act.put, List.setIfInBounds_toArray, List.set_cons_zero, List.set_cons_succ]
    refine wpAnyH_take (i := 5) (oi := { dst := some 34, op := Op.load 26 (Operand.tmp 33), type := 26, pos := "need.go:28", after := #[{ on := 4, ground := Ground.data }], guard := none }) (v := ?_) rfl (by kernel_rfl) (by kernel_rfl) (by kernel_rfl) (fun _ _ _ h => h) (Or.inl ⟨by rfl, ?hy⟩) (by assumption) ?_
    case hy => (intro w hSw; (try dsimp only at hSw); go_simp; first | done | with_reducible rfl)
    try simp only [Act.put, List.setIfInBounds_toArray, List.set_cons_zero, List.set_cons_succ]
    refine wpAnyH_take (i := 8) (oi := { dst := some 37, op := Op.move (Operand.const (Value.int IntKind.i64 0)), type := 3, pos := "need.go:28", after := #[], guard := none }) (v := ?_) rfl (by kernel_rfl) (by kernel_rfl) (by kernel_rfl) (fun _ _ _ h => h) (Or.inl ⟨by rfl, ?hy⟩) (by assumption) ?_
    case hy => (intro w hSw; (try dsimp only at hSw); go_simp; first | done | with_reducible rfl)
    try simp only [Act.put, List.setIfInBounds_toArray, List.set_cons_zero, List.set_cons_succ]
    refine wpAnyH_ready (rs := [6]) (by kernel_rfl) (by simp) ?_
    refine AllReadyH.cons (o := { dst := some 35, op := Op.call { callee := Callee.value (Operand.func 12), args := #[Operand.tmp 29, Operand.tmp 34], argTypes := #[24, 26] }, type := 31, pos := "need.go:28", after := #[{ on := 0, ground := Ground.data }, { on := 5, ground := Ground.data }], guard := none }) rfl (fun K hK => ?_) AllReadyH.nil
    go_simp
    go_at_call 12
    refine (of_any v.op HX.out.2.2.2.1.k v.ai v.ni v.ci v.bi v.oi v.l v.ap v.np v.cp v.bp v.ob v.p U.x0 U.y0 U.x1 U.y1 _ (HX.out.1.below HB4.out.drew) HX.out.2.1 (HX.out.2.2.1.below HB4.out.drew) HX.out.2.2.2.1.pr HX.out.2.2.2.2.1).mono ?_
    rintro e w5 ⟨hr, hb⟩
    obtain ⟨xo, xn, xc, xb, xoff, rfl, hOw⟩ := Rg.retO hr
    have H5 := hid (And.intro hOw hb)
    clear hr hOw
    go_wp2_with fail
    refine hK.out _ _ ?_ (fun hHeld => ?_)
    · repeat (first | with_reducible assumption | with_reducible refine s6_drew ?_ | with_reducible refine s6_below ?_ ‹_›)
    clear hK K
    try simp only [Act.put, List.setIfInBounds_toArray, List.set_cons_zero, List.set_cons_succ]
    refine wpAnyH_take (i := 7) (oi := { dst := some 36, op := Op.call { callee := Callee.builtin Builtin.len, args := #[Operand.tmp 35], argTypes := #[31] }, type := 3, pos := "need.go:28", after := #[{ on := 6, ground := Ground.data }], guard := none }) (v := ?_) rfl (by kernel_rfl) (by kernel_rfl) (by kernel_rfl) (fun _ _ _ h => h) (Or.inl ⟨by rfl, ?hy⟩) (by assumption) ?_
    case hy => (intro w hSw; (try dsimp only at hSw); go_simp; first | done | with_reducible rfl)
    try simp only [Act.put, List.setIfInBounds_toArray, List.set_cons_zero, List.set_cons_succ]
    refine wpAnyH_done (by kernel_rfl) ?_ _
    have hxn : xn = v.ni := by have := Rg.vw_len H5.out.1.v; rw [List.length_replicate] at this; exact this.symm
    subst hxn
    have e5 : List.replicate v.ni (needE v.op (nth v.p) ⟨U.x0, U.y0, U.x1, U.y1⟩) = List.replicate v.ni (needV v U) := by have h1 := HN.out; rw [HX.out.2.2.2.2.2] at h1; exact h1
    have hB5 : Below W.heap.size W w5 := via HB4.out.drew H5.out.2
    have hO5 := H5.out.1.mono (show W.heap.size ≤ W4.drew.heap.size from HB4.out.size)
    rw [e5] at hO5
    have HS5 := hid (And.intro ((HNB.out.below (Below.refl _ _).drew).below H5.out.2) (And.intro hO5 (And.intro (HA.out.to hB5) (two_low (g := w.heap.size + 1 + 1 + 1 + 1) (h := w.heap.size + 1 + 1 + 1) hB5))))
    clear e5 hB5 hO5 hS6 hHeld hb
    gi_wp2
    gi_loopg [37] v.ni (fun g v37 wr => ∃ k : Nat, k ≤ v.ni ∧ g = v.ni - k ∧ v37 = .int .i64 k ∧ Nb wr W.heap.size v.op v.ai v.ni v.ci v.ap v.np v.cp ∧ Rg.Ow W.heap.size wr xo v.ni xc xb xoff (List.replicate v.ni (needV v U)) ∧ Ak w wr (some ⟨b, off, none⟩) n c out ((v.l.take k).foldl (joinK (needV v U)) st) ∧ Two (w.heap.size + 1 + 1 + 1 + 1) (w.heap.size + 1 + 1 + 1) W wr)
    case atStart => exact ⟨0, Nat.zero_le _, rfl, rfl, HS5.out.1, HS5.out.2.1, HS5.out.2.2.1, HS5.out.2.2.2⟩
    case round =>
      obtain ⟨k, hk, rfl, rfl, hN, hO, hAk, hT⟩ := hrel
      have HR := hid (And.intro hN (And.intro hO (And.intro hAk hT)))
      clear HS5
      by_cases hlt : k < v.ni
      case neg =>
        obtain rfl : v.ni = k := by omega
        have hall : v.l.take v.ni = v.l := List.take_of_length_le (by rw [HX.out.2.2.2.2.2]; exact Nat.le_refl _)
        have hAe := hAk
        rw [hall, ← HE.out, ← HRes.out] at hAe
        have HAe := hid hAe
        clear hN hO hAk hT hall hlt hAe
        gi_wp2
        have hk1 := HK.out.1
        have hk2 := HK.out.2.1
        have hk4 := HO.out.2.2.2.1
        exact ⟨keeps_two HA.out.a hn0 HA.out.len HR.out.2.2.2, fun hBk => ⟨two_cell HR.out.2.2.2 hBk.1 (by omega) (by omega), fun j z hz => two_cell HR.out.2.2.2 (hBk.2 j z hz) (by omega) (by omega)⟩, HAe.out⟩
      have hlz : (k : Int) < (v.ni : Int) := by omega
      obtain ⟨y, hy⟩ : ∃ y, v.l[k]? = some y := ⟨_, List.getElem?_eq_getElem (by rw [HX.out.2.2.2.2.2]; exact hlt)⟩
      have HPl := hid (HI.out y (List.mem_of_getElem? hy))
      obtain ⟨-, -, hvi2, -⟩ := vn_at (HV.out.1.below hAk.low) HVv.out
      obtain ⟨hai, i0⟩ := vi_at hvi2 hy
      obtain ⟨rfl, c0, c1, c2, c3⟩ := Rg.vw_at hO.v (show (List.replicate v.ni (needV v U))[k]? = some (needV v U) by rw [List.getElem?_replicate, if_pos hlt])
      obtain ⟨n0, n1, n2⟩ := id hN
      have hxb : xb < wr.heap.size := World.block_lt_of_cell? _ _ c0
      have hvb : v.bi < wr.heap.size := World.block_lt_of_cell? _ _ i0
      have hnw : W.heap.size < wr.heap.size := World.block_lt_of_cell? _ _ n0
      have hvb2 : v.bi < w.heap.size := by
        obtain ⟨-, -, hvi3, -⟩ := vn_at HV.out.1 HVv.out
        exact World.block_lt_of_cell? _ _ (vi_at hvi3 hy).2
      have HSt := hid (fold_step hy (needV v U) st)
      obtain ⟨st9, hst9⟩ : ∃ st9, st9 = (v.l.take k).foldl (joinK (needV v U)) st := ⟨_, rfl⟩
      rw [← hst9] at HSt
      obtain ⟨N, hNd⟩ : ∃ N, N = needV v U := ⟨_, rfl⟩
      rw [← hNd] at c0 c1 c2 c3
      have HNd := hid hNd
      obtain ⟨W9, hW9⟩ : ∃ W9, W9 = wr.alloc (.cells #[.int .i64 N.x0, .int .i64 N.y0, .int .i64 N.x1, .int .i64 N.y1] 26) := ⟨_, rfl⟩
      have hB9 : Below wr.heap.size wr W9 := by rw [hW9]; exact al _
      have h94 : Rg.Rc.Has4 W9 wr.heap.size (.int .i64 N.x0) (.int .i64 N.y0) (.int .i64 N.x1) (.int .i64 N.y1) := by rw [hW9]; exact Rg.Rc.Has4.new rfl _ _ _ _ _
      rw [hai] at n1
      have HW9 := hid hW9
      have HS9 := hid hst9
      clear hai hW9 hNd hst9
      gi_wp2
      rw [← HW9.out]
      have e1 : W9.drew.cell? ⟨W.heap.size, 1, none⟩ = some (.slice (some ⟨v.bi, v.oi, none⟩) v.ni v.ci) := cell_below hB9 n1
      have e2 : W9.drew.cell? ⟨v.bi, v.oi + k, none⟩ = some (.int .i64 y) := cell_below hB9 i0
      have e3 : W9.drew.cell? ⟨wr.heap.size, 0, none⟩ = some (.int .i64 N.x0) := h94.c0
      have e4 : W9.drew.cell? ⟨wr.heap.size, 1, none⟩ = some (.int .i64 N.y0) := h94.c1
      have e5 : W9.drew.cell? ⟨wr.heap.size, 2, none⟩ = some (.int .i64 N.x1) := h94.c2
      have e6 : W9.drew.cell? ⟨wr.heap.size, 3, none⟩ = some (.int .i64 N.y1) := h94.c3
      have HA9 := hid (show Ak w W9.drew (some ⟨b, off, none⟩) n c out st9 by rw [HS9.out]; exact hAk.to hB9.drew)
      have H9n := hid (hN.below hB9.drew)
      have H9o := hid (hO.below hB9.drew)
      have H9b := hid hB9.drew
      clear hN hO hAk hT hvi2 hy HS9 HW9 hB9 h94 n0 n1 n2 i0 c0 c1 c2 c3 hvb
      refine region_round (S := (fun w' => w'.cell? ⟨W.heap.size, 1, none⟩ = some (.slice (some ⟨v.bi, v.oi, none⟩) v.ni v.ci) ∧ w'.cell? ⟨v.bi, v.oi + k, none⟩ = some (.int .i64 y) ∧ w'.cell? ⟨wr.heap.size, 0, none⟩ = some (.int .i64 N.x0) ∧ w'.cell? ⟨wr.heap.size, 1, none⟩ = some (.int .i64 N.y0) ∧ w'.cell? ⟨wr.heap.size, 2, none⟩ = some (.int .i64 N.x1) ∧ w'.cell? ⟨wr.heap.size, 3, none⟩ = some (.int .i64 N.y1))) (by kernel_rfl) (by kernel_rfl) (by rintro ⟨_, _, h⟩; exact h) ?_ (fun hHeld => ?_)
      · exact ⟨e1, e2, e3, e4, e5, e6⟩
      refine wpAnyH_take (i := 0) (oi := { dst := some 42, op := Op.fieldAddr 24 (Operand.tmp 8) 1, type := 0, pos := "need.go:29", after := #[], guard := none }) (v := ?_) rfl (by kernel_rfl) (by kernel_rfl) (by kernel_rfl) (fun _ _ _ h => h) (Or.inl ⟨by rfl, ?hy⟩) (by assumption) ?_
      case hy => (intro w hSw; (try dsimp only at hSw); go_simp; first | done | with_reducible rfl)
      try simp only [Act.put, List.setIfInBounds_toArray, List.set_cons_zero, List.set_cons_succ]
      refine wpAnyH_take (i := 1) (oi := { dst := some 43, op := Op.load 22 (Operand.tmp 42), type := 22, pos := "need.go:29", after := #[{ on := 0, ground := Ground.data }], guard := none }) (v := ?_) rfl (by kernel_rfl) (by kernel_rfl) (by kernel_rfl) (fun _ _ _ h => h) (Or.inl ⟨by rfl, ?hy⟩) (by assumption) ?_
      case hy => (intro w hSw; (try dsimp only at hSw); go_simp; first | done | with_reducible rfl)
      try simp only [Act.put, List.setIfInBounds_toArray, List.set_cons_zero, List.set_cons_succ]
      refine wpAnyH_take (i := 2) (oi := { dst := some 44, op := Op.move (Operand.tmp 9), type := 3, pos := "need.go:29", after := #[], guard := none }) (v := ?_) rfl (by kernel_rfl) (by kernel_rfl) (by kernel_rfl) (fun _ _ _ h => h) (Or.inl ⟨by rfl, ?hy⟩) (by assumption) ?_
      case hy => (intro w hSw; (try dsimp only at hSw); go_simp; first | done | with_reducible rfl)
      try simp only [Act.put, List.setIfInBounds_toArray, List.set_cons_zero, List.set_cons_succ]
      refine wpAnyH_take (i := 3) (oi := { dst := some 45, op := Op.indexAddr 22 (Operand.tmp 43) (Operand.tmp 44), type := 0, pos := "need.go:29", after := #[{ on := 1, ground := Ground.data }, { on := 2, ground := Ground.data }], guard := none }) (v := ?_) rfl (by kernel_rfl) (by kernel_rfl) (by kernel_rfl) (fun _ _ _ h => h) (Or.inl ⟨by rfl, ?hy⟩) (by assumption) ?_
      case hy => (intro w hSw; (try dsimp only at hSw); go_simp; first | done | with_reducible rfl)
      try simp only [Act.put, List.setIfInBounds_toArray, List.set_cons_zero, List.set_cons_succ]
      refine wpAnyH_take (i := 4) (oi := { dst := some 46, op := Op.load 3 (Operand.tmp 45), type := 3, pos := "need.go:29", after := #[{ on := 3, ground := Ground.data }], guard := none }) (v := ?_) rfl (by kernel_rfl) (by kernel_rfl) (by kernel_rfl) (fun _ _ _ h => h) (Or.inl ⟨by rfl, ?hy⟩) (by assumption) ?_
      case hy => (intro w hSw; (try dsimp only at hSw); go_simp; first | done | with_reducible rfl)
      try simp only [Act.put, List.setIfInBounds_toArray, List.set_cons_zero, List.set_cons_succ]
      refine wpAnyH_take (i := 5) (oi := { dst := some 47, op := Op.load 26 (Operand.tmp 10), type := 26, pos := "need.go:29", after := #[], guard := none }) (v := ?_) rfl (by kernel_rfl) (by kernel_rfl) (by kernel_rfl) (fun _ _ _ h => h) (Or.inl ⟨by rfl, ?hy⟩) (by assumption) ?_
      case hy => (intro w hSw; (try dsimp only at hSw); go_simp; first | done | with_reducible rfl)
      try simp only [Act.put, List.setIfInBounds_toArray, List.set_cons_zero, List.set_cons_succ]
      refine wpAnyH_ready (rs := [6]) (by kernel_rfl) (by simp) ?_
      refine AllReadyH.cons (o := { dst := some 48, op := Op.call { callee := Callee.value (Operand.func 34), args := #[Operand.tmp 6, Operand.tmp 46, Operand.tmp 47], argTypes := #[60, 3, 26] }, type := 0, pos := "need.go:29", after := #[{ on := 4, ground := Ground.data }, { on := 5, ground := Ground.data }], guard := none }) rfl (fun K hK => ?_) AllReadyH.nil
      go_simp
      go_at_call 34
      refine (askjoin_any w.heap.size (w.heap.size + 1 + 1 + 1 + 1) (w.heap.size + 1 + 1 + 1) n st9 y N.x0 N.y0 N.x1 N.y1 _ HA9.out.a HA9.out.len HPl.out).mono ?_
      rintro e w6 ⟨rfl, hAsk, hTwo⟩
      have H6 := hid (And.intro (ak_two HA9.out hTwo hAsk ((joinK_len _ _ _).trans HA9.out.len)) hTwo)
      clear hAsk hTwo
      go_wp2_with fail
      refine hK.out _ _ ?_ (fun hHeld => ?_)
      · exact ⟨two_cell H6.out.2 e1 (by omega) (by omega), two_cell H6.out.2 e2 (by omega) (by omega), two_cell H6.out.2 e3 (by omega) (by omega), two_cell H6.out.2 e4 (by omega) (by omega), two_cell H6.out.2 e5 (by omega) (by omega), two_cell H6.out.2 e6 (by omega) (by omega)⟩
      clear hK K
      try simp only [Act.put, List.setIfInBounds_toArray, List.set_cons_zero, List.set_cons_succ]
      refine wpAnyH_done (by kernel_rfl) ?_ _
      gi_wp2
      gi_roundg (v.ni - (k + 1))
      case measure => omega
      case rel =>
        refine ⟨k + 1, hlt, rfl, by simp, ?_, ow_two H9o.out H6.out.2 (by omega) (by omega), ?_, (HR.out.2.2.2.trans (two_low H9b.out)).trans H6.out.2⟩
        · exact ⟨two_cell H6.out.2 H9n.out.c0 (by omega) (by omega), two_cell H6.out.2 H9n.out.c1 (by omega) (by omega), two_cell H6.out.2 H9n.out.c2 (by omega) (by omega)⟩
        · rw [HSt.out, ← HNd.out]
          exact H6.out.1
end Go.Proofs.YtamojciiacmjaaaDoor
