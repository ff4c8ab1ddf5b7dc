/- How far a change spreads over a filter: the contract. -/
import Derived.Test.YteiihgoobhlkbaaDoorFoRun
import Derived.Test.YteiihgoobhlkbaaDoorFoSpr
namespace Go.Proofs.YteiihgoobhlkbaaDoor
open Num Go.RowKit
open Rg.Num (Inv Pr spA allJ mvL grL oneS boxQ allR setsL orF andF Fits Sub SubL)
set_option linter.unusedVariables false
set_option linter.unusedSimpArgs false

/-- what is known, in a block of one's own; each region of it too -/
structure Kn (B : Nat) (w : World) (g n : Nat) (K : List Rv) : Prop where
  z : Oz 1 B w (some ⟨g, 0, none⟩) n n g 0 (slRs K)
  v : ∀ v, v ∈ K → Rg.Ow B w v.ao v.n v.c v.b v.off v.l
  ne : ∀ v, v ∈ K → 0 < v.c → v.b ≠ g
theorem Kn.below {B : Nat} {w w' : World} {g n : Nat} {K : List Rv} (h : Kn B w g n K) (hb : Below w.heap.size w w') : Kn B w' g n K := ⟨h.z.below hb, fun v hv => Rg.Oz.below (h.v v hv) hb, h.ne⟩
theorem kn_len {B : Nat} {w : World} {g n : Nat} {K : List Rv} (h : Kn B w g n K) : K.length = n := by have := h.z.v.len; rw [slRs_len] at this; omega
theorem kn_vf {B : Nat} {w : World} {g n : Nat} {K : List Rv} (h : Kn B w g n K) : Vf w (some ⟨g, 0, none⟩) n n g 0 K := ⟨h.z.v, fun v hv => (h.v v hv).v⟩
theorem kn_set {B : Nat} {w : World} {g n : Nat} {K : List Rv} (h : Kn B w g n K) {i : Nat} (hi : i < n) {v : Rv} (hv : Rg.Ow B w v.ao v.n v.c v.b v.off v.l) (hne : 0 < v.c → v.b ≠ g) : Kn B (w.setCell ⟨g, i, none⟩ (.slice v.ao v.n v.c)) g n (K.set i v) := by
  have hs : ∀ u : Rv, Rg.Ow B w u.ao u.n u.c u.b u.off u.l → (0 < u.c → u.b ≠ g) → Rg.Ow B (w.setCell ⟨g, i, none⟩ (.slice v.ao v.n v.c)) u.ao u.n u.c u.b u.off u.l := fun u hu hn =>
    Rg.Oz.block hu (by rw [World.size_setCell]; exact Nat.le_refl _) fun hc => Below.heap_setCell _ _ _ _ (hn hc)
  refine ⟨oz_setR h.z hi v, fun u hu => ?_, fun u hu => ?_⟩
  · rcases List.mem_or_eq_of_mem_set hu with hu | rfl
    · exact hs u (h.v u hu) (h.ne u hu)
    · exact hs _ hv hne
  · rcases List.mem_or_eq_of_mem_set hu with hu | rfl
    · exact h.ne u hu
    · exact hne
theorem kn_new {w : World} {B : Nat} (hB : B ≤ w.heap.size) (n : Nat) (hn : n ≤ 1000000) : Kn B (w.alloc (.cells (slRs (List.replicate n nilR)).toArray 26)) w.heap.size n (List.replicate n nilR) := by
  refine ⟨oz_news hB _ n (by rw [slRs_len]; simp) hn _, fun v hv => ?_, fun v hv => ?_⟩
  · rw [List.mem_replicate] at hv
    rw [hv.2]
    exact Rg.oz_nil 4 B _ none
  · rw [List.mem_replicate] at hv
    rw [hv.2]
    exact fun hc => absurd hc (by decide)
theorem map_rep (n : Nat) : (List.replicate n nilR).map Rv.l = List.replicate n [] := by rw [List.map_replicate]; rfl
theorem pick_ow {B : Nat} {w : World} {K : List Rv} (h : ∀ v, v ∈ K → Rg.Ow B w v.ao v.n v.c v.b v.off v.l) (x : Int) : Rg.Ow B w (pickV K x).ao (pickV K x).n (pickV K x).c (pickV K x).b (pickV K x).off (pickV K x).l := by
  unfold pickV
  split
  · rename_i hx
    have hlt : x.toNat < K.length := by omega
    rw [List.getD_eq_getElem?_getD, List.getElem?_eq_getElem hlt]
    exact h _ (List.getElem_mem hlt)
  · exact Rg.oz_nil 4 B w none

/-- the box of the filter, a node of it, and all that was there -/
abbrev So (w : World) (ao : Option Addr) (n c b o : Nat) (op : Int) (ai : Option Addr) (ni ci : Nat) (ap : Option Addr) (np cp : Nat) (w' : World) : Prop := (w'.cell? ⟨w.heap.size, 0, none⟩ = some (.slice ao n c) ∧ w'.cell? ⟨b, o, none⟩ = some (.int .i64 op) ∧ w'.cell? ⟨b, o + 1, none⟩ = some (.slice ai ni ci) ∧ w'.cell? ⟨b, o + 2, none⟩ = some (.slice ap np cp)) ∧ Below w.heap.size w w'
section
variable {w : World} {ao : Option Addr} {n c b o : Nat} {op : Int} {ai : Option Addr} {ni ci : Nat} {ap : Option Addr} {np cp : Nat} {w' : World}
theorem so_drew (h : So w ao n c b o op ai ni ci ap np cp w') : So w ao n c b o op ai ni ci ap np cp w'.drew := ⟨h.1, h.2.drew⟩
theorem so_below {w2 : World} (h : So w ao n c b o op ai ni ci ap np cp w') (hb : Below w'.heap.size w' w2) : So w ao n c b o op ai ni ci ap np cp w2 := ⟨⟨cell_below hb h.1.1, cell_below hb h.1.2.1, cell_below hb h.1.2.2.1, cell_below hb h.1.2.2.2⟩, via h.2 hb⟩
theorem so_set {g i : Nat} {v : Value} (h : So w ao n c b o op ai ni ci ap np cp w') (hg : w.heap.size < g ∧ b < w.heap.size) : So w ao n c b o op ai ni ci ap np cp (w'.setCell ⟨g, i, none⟩ v) :=
  ⟨⟨cell_else _ _ (by omega) h.1.1, cell_else _ _ (by omega) h.1.2.1, cell_else _ _ (by omega) h.1.2.2.1, cell_else _ _ (by omega) h.1.2.2.2⟩, h.2.setCell (p := ⟨g, i, none⟩) (by show w.heap.size ≤ g; omega) _⟩
end
theorem lt_after {k : Nat} {W w : World} (h : k < W.heap.size) (hb : Below W.drew.heap.size W.drew w) : k < w.heap.size := Nat.lt_of_lt_of_le h hb.size
theorem rw_below {W w : World} {v : Rv} (h : Rw W v) (hb : Below W.heap.size W w) : Rw w v := Rg.Vz.below h hb
/-- a node's spread, beside what is known -/
theorem spread_c {w W : World} {g : Nat} {op : Int} {ai : Option Addr} {ni ci : Nat} {ap : Option Addr} {np cp bp ob : Nat} {p l : List Int} {io : Option Addr} {n c b off : Nat} {s : Rv} {K : List Rv} {X Y : List Int}
    (hB : Below w.heap.size w W) (hg : g < W.heap.size) (hp : Vi W ap np cp bp ob p) (hV : Vf W io n c b off (l.map (inV s K))) (hpr : Pr op (nth p)) (hX : X.length ≤ 30000) (hY : Y.length ≤ 30000) (hI : Ik X Y s.l (K.map Rv.l)) :
    Calls Tryd.prog 21 #[.agg #[.int .i64 op, .slice ai ni ci, .slice ap np cp], .slice io n c] W fun e w' => ∃ u : Rv, e = .returned (.slice u.ao u.n u.c) ∧ Hid (u.l = spA op (nth p) (allJ (l.map (inLs s.l (K.map Rv.l)))) ∧ Rg.Ow w.heap.size w' u.ao u.n u.c u.b u.off u.l ∧ (0 < u.c → u.b ≠ g)) ∧ Below W.heap.size W w' := by
  refine (spread_any op ai ni ci ap np cp bp ob p io n c b off _ W hp hV hpr X Y hX hY fun v hv => ?_).mono fun e w' hh => ?_
  · obtain ⟨x, -, rfl⟩ := List.mem_map.1 hv
    rw [inV_l]
    exact ik_in hI x
  · obtain ⟨⟨ao, m, k, q, o, rfl, hO⟩, hb⟩ := hh
    rw [inV_map] at hO
    exact ⟨⟨ao, m, k, q, o, _⟩, rfl, ⟨rfl, Rg.Oz.mono hO hB.size, fun hc => Nat.ne_of_gt (Nat.lt_of_lt_of_le hg (hO.new hc).1)⟩, hb⟩
theorem enter_spread (args : Array Value) (w : World) : (callFunc 21 args).run Tryd.prog w = .ok (.enter 21 args) w := by
  simp [callFunc, go_sem]
  rw [if_neg (by simp [Tryd.f21]), if_neg (by simp [Tryd.f21])]

/-- behind a round: the box, the marks and the order stand -/
theorem ov_step {w wr w4 w5 : World} {n0 : Nat} {K : List Rv} {ao : Option Addr} {n c : Nat} {out : Int} {aoN : Option Addr} {nN cN bN oN : Nat} {N : List Bool} {aoO : Option Addr} {nO cO bO oO : Nat} {l : List Int}
    (hK : Kn w.heap.size wr (w.heap.size + 1) n0 K) (hG : Sg w ao n c out wr) (hT : Ot (w.heap.size + 1 + 1) wr aoN nN cN bN oN N) (hO : Oi (w.heap.size + 1 + 1) wr aoO nO cO bO oO l)
    (hb4 : Below wr.drew.heap.size wr.drew w4) (hb5 : Below w4.heap.size w4 w5) (a : Nat) (v : Value) :
    Sg w ao n c out (w5.setCell ⟨w.heap.size + 1, a, none⟩ v) ∧ Ot (w.heap.size + 1 + 1) (w5.setCell ⟨w.heap.size + 1, a, none⟩ v) aoN nN cN bN oN N ∧ Oi (w.heap.size + 1 + 1) (w5.setCell ⟨w.heap.size + 1, a, none⟩ v) aoO nO cO bO oO l := by
  have h5 := sg_below (sg_below (sg_drew hG) hb4) hb5
  refine ⟨⟨⟨cell_else _ _ (by omega) h5.1.1, cell_else _ _ (by omega) h5.1.2⟩, h5.2.setCell (p := ⟨w.heap.size + 1, a, none⟩) (Nat.le_succ _) _⟩, ?_, ?_⟩
  · exact oz_far (((oz_drew hT).below hb4).below hb5) (fun hc => by have := (hT.new hc).1; omega) _ _
  · exact oz_far (((oz_drew hO).below hb4).below hb5) (fun hc => by have := (hO.new hc).1; omega) _ _
set_option maxRecDepth 100000 in
set_option maxHeartbeats 4000000 in
theorem over_any (ao : Option Addr) (n c b off : Nat) (L : List Nv) (out : Int) (s : Rv) (w : World) (h : Vn w ao n c b off L) (hf : Few n L) (hs : Rw w s) (hp : ∀ v, v ∈ L → Pr v.op (nth v.p)) (hn6 : n ≤ 6) (hI : IK 0 s.l (List.replicate L.length [])) :
    Calls Tryd.prog 20 #[.agg #[.slice ao n c, .int .i64 out], .slice s.ao s.n s.c, .func (.func 21) #[] #[]] w fun e w' => (∃ N, Nd (insL L) out N ∧ Rg.RetO w.heap.size w' e (spreadG L N out s.l)) ∧ Below w.heap.size w w' := by
  have hl := vn_len h
  have he := enter_spread
  have hs0 := sg_new w ao n c out 24
  have hm := run_nilRs n (by omega)
  have hz0 : (w.alloc (.cells #[.slice ao n c, .int .i64 out] 24)).heap.size = w.heap.size + 1 := by simp
  have hk0 := kn_new (w := w.alloc (.cells #[.slice ao n c, .int .i64 out] 24)) (B := w.heap.size) hs0.2.size n (by omega)
  rw [hz0] at hk0
  have hs1 := sg_below hs0 (al (W := w.alloc (.cells #[.slice ao n c, .int .i64 out] 24)) (.cells (slRs (List.replicate n nilR)).toArray 26))
  have H := hid (And.intro h (And.intro hf (And.intro hs (And.intro hp (And.intro hl (ord_len L))))))
  have H0 := hid (And.intro hk0 hs1)
  have HI := hid hI
  clear h hf hs hp hs0 hk0 hs1 hz0 hl hI
  go_enter Tryd.func20, Tryd.ntmps20
  go_wp2_with (first
    | (go_at_call 29; with_reducible refine Calls.mono (needed_any _ _ _ b off L _ _ (H.out.1.below H0.out.2.2) H.out.2.1) ?_; rintro e w1 ⟨⟨N, hr, hN⟩, hb⟩; obtain ⟨aoN, nN, cN, bN, oN, rfl, hT⟩ := retT hr; have H1 := hid (And.intro (H0.out.1.below hb) (And.intro (sg_below H0.out.2 hb) (And.intro hT (And.intro hN hb.size)))); obtain ⟨c0, c1⟩ := (sg_below H0.out.2 hb).1; clear hr hT hN hb)
    | (go_at_call 30; with_reducible refine Calls.mono (all_any _ _ _ b off L _ _ (H.out.1.below H1.out.2.1.2) H.out.2.1) ?_; rintro e w2 ⟨hr, hb⟩; obtain ⟨aoO, nO, cO, bO, oO, rfl, hO⟩ := retI hr; have H2 := hid (And.intro (H1.out.1.below hb) (And.intro (sg_below H1.out.2.1 hb) (And.intro (H1.out.2.2.1.below hb) (hO.mono H1.out.2.2.2.2)))); clear hr hO hb))
  have hOl : nO ≤ n := by rw [← vi_len H2.out.2.2.2.v, castL_len]; have h1 := H.out.2.2.2.2.2; have h2 := H.out.2.2.2.2.1; omega
  have hNl : N.length = n := by have h1 := H1.out.2.2.2.1.len; rw [insL_len, H.out.2.2.2.2.1] at h1; exact h1
  obtain ⟨F, hF⟩ : ∃ F, F = runG L N s.l (ordG (insL L)) (List.replicate L.length []) := ⟨_, rfl⟩
  obtain ⟨O, hO⟩ : ∃ O, O = ordG (insL L) := ⟨_, rfl⟩
  have hlt : ∀ a, a ∈ O → a < n := fun a ha => by rw [hO] at ha; have := (ordG_ord (insL L)).lt a ha; rw [insL_len, H.out.2.2.2.2.1] at this; exact this
  have hz1 : ((w.alloc (.cells #[.slice ao n c, .int .i64 out] 24)).alloc (.cells (slRs (List.replicate n nilR)).toArray 26)).heap.size = w.heap.size + 1 + 1 := by simp
  have hTN : Ot (w.heap.size + 1 + 1) w2 aoN nN cN bN oN N := by rw [← hz1]; exact H2.out.2.2.1
  have hTO : Oi (w.heap.size + 1 + 1) w2 aoO nO cO bO oO (castL O) := by rw [hO, ← hz1]; exact H2.out.2.2.2
  have H3 := hid (And.intro H2.out.1 (And.intro H2.out.2.1 (And.intro hTN hTO)))
  have HN := hid H1.out.2.2.2.1
  have H4 := hid (And.intro hlt (And.intro hNl (And.intro hF hO)))
  have hrel0 : runG L N s.l (O.drop 0) ((List.replicate n nilR).map Rv.l) = F := by rw [hF, hO, map_rep, H.out.2.2.2.2.1]; rfl
  have hik0 : IK 0 s.l ((List.replicate n nilR).map Rv.l) := by rw [map_rep, ← H.out.2.2.2.2.1]; exact HI.out
  have HS := hid (And.intro hrel0 hik0)
  clear hlt hNl hF hO hTN hTO hz1 hrel0 hik0 H0 H1 H2 hm HI c0 c1
  go_loopg [20] nO (fun gk v20 wr => ∃ (k : Nat) (K : List Rv), k ≤ nO ∧ gk = nO - k ∧ v20 = .int .i64 k ∧ Kn w.heap.size wr (w.heap.size + 1) n K ∧ Sg w ao n c out wr ∧ Ot (w.heap.size + 1 + 1) wr aoN nN cN bN oN N ∧ Oi (w.heap.size + 1 + 1) wr aoO nO cO bO oO (castL O) ∧ IK k s.l (K.map Rv.l) ∧ runG L N s.l (O.drop k) (K.map Rv.l) = F)
  case atStart => exact ⟨0, _, Nat.zero_le _, rfl, rfl, H3.out.1, H3.out.2.1, H3.out.2.2.1, H3.out.2.2.2, HS.out.2, HS.out.1⟩
  case round =>
    obtain ⟨k, K, hk, rfl, rfl, hK, hG, hT, hO, hIK, hR⟩ := hrel
    have HK := hid (And.intro hK (And.intro hG (And.intro hT (And.intro hO (And.intro hIK hR)))))
    have hKl := kn_len hK
    clear H3 HS
    by_cases hlt : k < nO
    · have hlz : (k : Int) < (nO : Int) := by omega
      have hOl2 : O.length = nO := by have := vi_len hO.v; rw [castL_len] at this; exact this
      obtain ⟨a, ha⟩ : ∃ a, O[k]? = some a := ⟨_, List.getElem?_eq_getElem (by omega)⟩
      have han : a < n := H4.out.1 a (List.mem_of_getElem? ha)
      have haz : (a : Int) < (n : Int) := by omega
      have hNn : nN = n := by rw [← vt_len hT.v]; exact H4.out.2.1
      subst hNn
      obtain ⟨rfl, e0⟩ := vi_at hO.v (castL_get ha)
      obtain ⟨rfl, e1⟩ := vt_at hT.v (bt_get (D := N) (i := a) (by rw [H4.out.2.1]; exact han))
      have HR := hid (run_cons (L := L) (N := N) (s := s.l) ha (K.map Rv.l))
      clear hK hT hO hIK hR hOl2
      rcases hba : bt N a with _ | _
      · rw [hba] at e1
        have HE := hid (step_no (L := L) hba s.l (K.map Rv.l))
        clear hba ha hG
        go_wp2
        go_roundg (nO - (k + 1))
        case measure => omega
        case rel => exact ⟨k + 1, K, hlt, rfl, by simp, HK.out.1, HK.out.2.1, HK.out.2.2.1, HK.out.2.2.2.1, ik_next HK.out.2.2.2.2.1, by rw [← HK.out.2.2.2.2.2, HR.out, HE.out]⟩
      · rw [hba] at e1
        obtain ⟨v, hv⟩ : ∃ v, L[a]? = some v := ⟨_, List.getElem?_eq_getElem (by rw [H.out.2.2.2.2.1]; exact han)⟩
        have HE := hid (step_yes hv hba s.l (K.map Rv.l))
        have hm := List.mem_of_getElem? hv
        have HM := hid (And.intro (H.out.2.2.2.1 v hm) (H.out.2.1.i v hm))
        obtain ⟨X, Y, hX, hY, hik⟩ := HK.out.2.2.2.2.1
        have HX := hid (And.intro (Nat.le_trans hX (sz_6 (by omega))) (And.intro (Nat.le_trans hY (sz_6 (by omega))) hik))
        obtain ⟨rfl, ⟨f0, f1, f2⟩, hvi, hvp⟩ := vn_at (H.out.1.below hG.2) hv
        have HV := hid (And.intro hvi hvp)
        have hbw : b < w.heap.size := by
          have := (vn_at H.out.1 hv).2.1.1
          exact World.block_lt_of_cell? _ _ this
        have hgb : w.heap.size < w.heap.size + 1 ∧ b < w.heap.size := ⟨Nat.lt_succ_self _, hbw⟩
        have hg0 := hG.1.1
        have hS : So w (some ⟨b, off, none⟩) nN c b (off + a * 3) v.op v.ai v.ni v.ci v.ap v.np v.cp wr := ⟨⟨hg0, f0, f1, f2⟩, hG.2⟩
        have hgw : w.heap.size + 1 < wr.heap.size := World.block_lt_of_cell? wr ⟨w.heap.size + 1, a, none⟩ (oz_someR HK.out.1.z han).choose_spec.1
        have HG := hid hgw
        have HB := hid hG.2
        clear hba ha hv hm hX hY hik hvi hvp hbw hG hgw
        go_wp2
        clear e0 e1 f0 f1 f2 hg0
        go_region_held3 (fun w' => (w'.cell? ⟨w.heap.size, 0, none⟩ = some (.slice (some ⟨b, off, none⟩) nN c) ∧ w'.cell? ⟨b, off + a * 3, none⟩ = some (.int .i64 v.op) ∧ w'.cell? ⟨b, off + a * 3 + 1, none⟩ = some (.slice v.ai v.ni v.ci) ∧ w'.cell? ⟨b, off + a * 3 + 2, none⟩ = some (.slice v.ap v.np v.cp)) ∧ Below w.heap.size w w') (repeat (first | with_reducible assumption | with_reducible refine so_drew ?_ | with_reducible refine so_below ?_ ‹_› | with_reducible refine so_set ?_ ‹_›)) ((first
          | (go_at_call 31; with_reducible refine Calls.mono (inputs_any v.op v.ai v.ni v.ci v.bi v.oi v.l v.ap v.np v.cp s _ _ _ _ _ K wr.drew (HV.out.1.below (Below.refl _ _).drew) HM.out.2 (rw_below H.out.2.2.1 HB.out.drew) (kn_vf (HK.out.1.below (Below.refl _ _).drew))) ?_; rintro e w4 ⟨hr, hb4⟩; obtain ⟨io, m4, c4, b4, o4, rfl, hF⟩ := retF hr; have H6 := hid (And.intro hF (And.intro (via (w := w) HB.out.drew hb4) (And.intro ((HK.out.1.below (Below.refl _ _).drew).below hb4) (And.intro (HV.out.2.below (via (Below.refl _ _).drew hb4)) (lt_after HG.out hb4))))); clear hr hF)
          | (go_at_call 21; with_reducible refine Calls.mono (spread_c H6.out.2.1 H6.out.2.2.2.2 H6.out.2.2.2.1 H6.out.1 HM.out.1 HX.out.1 HX.out.2.1 HX.out.2.2) ?_; rintro e w5 ⟨u, rfl, hU, hb5⟩; have H7 := hid (And.intro hU.out (H6.out.2.2.1.below hb5)); obtain ⟨u0, e1, e2⟩ := oz_someR H7.out.2.z han; clear hU)))
        rename_i hh
        clear hS
        have HH := hid hh
        have H8 := hid (ov_step HK.out.1 HK.out.2.1 HK.out.2.2.1 HK.out.2.2.2.1 hb4 hb5 a (.slice u.ao u.n u.c))
        clear hh e1 e2 hgb
        go_wp2
        go_roundg (nO - (k + 1))
        case measure => omega
        case rel =>
          refine ⟨k + 1, K.set a u, hlt, rfl, by simp, kn_set H7.out.2 han H7.out.1.2.1 H7.out.1.2.2, H8.out.1, H8.out.2.1, H8.out.2.2, ?_, ?_⟩
          · rw [List.map_set, H7.out.1.1]
            exact ik_set HK.out.2.2.2.2.1 HM.out.1 a
          · rw [← HK.out.2.2.2.2.2, HR.out, HE.out, List.map_set, H7.out.1.1]
            rfl
    · obtain rfl : nO = k := by omega
      have hOl2 : O.length = nO := by have := vi_len hO.v; rw [castL_len] at this; exact this
      have hFK : K.map Rv.l = F := by
        rw [List.drop_eq_nil_of_le (by omega)] at hR
        exact hR
      have hpick : (pickV K out).l = spreadG L N out s.l := by rw [pickV_l, hFK, H4.out.2.2.1]; rfl
      have HP := hid (And.intro hpick (pick_ow hK.v out))
      obtain ⟨g0, g1⟩ := hG.1
      clear hK hT hO hIK hR hOl2 hFK hpick hG
      go_wp2_with (go_at_call 32; with_reducible refine Calls.mono (pick_any out _ _ _ _ _ K _ (kn_vf HK.out.1)) ?_; rintro e w1 ⟨rfl, hw⟩; replace hw := hw.symm; subst hw)
      go_ret
      exact ⟨⟨N, HN.out, _, _, _, _, _, rfl, by rw [← HP.out.1]; exact HP.out.2⟩, HK.out.2.1.2⟩

set_option maxRecDepth 100000 in
set_option maxHeartbeats 1000000 in
theorem spreadAll_any (ao : Option Addr) (n c b off : Nat) (L : List Nv) (out : Int) (s : Rv) (w : World) (h : Vn w ao n c b off L) (hf : Few n L) (hs : Rw w s) (hp : ∀ v, v ∈ L → Pr v.op (nth v.p)) (hn6 : n ≤ 6) (hI : IK 0 s.l (List.replicate L.length [])) :
    Calls Tryd.prog 9 #[.agg #[.slice ao n c, .int .i64 out], .slice s.ao s.n s.c] w fun e w' => (∃ N, Nd (insL L) out N ∧ Rg.RetO w.heap.size w' e (spreadG L N out s.l)) ∧ Below w.heap.size w w' := by
  have hB := al (W := w) (.cells #[.slice ao n c, .int .i64 out] 24)
  have C := over_any ao n c b off L out s _ (h.below hB) hf (rw_below hs hB) hp hn6 hI
  have HC := hid (And.intro C hB)
  clear C hB h hf hs hp hI
  go_enter Tryd.func9, Tryd.ntmps9
  go_wp2_with (go_at_call 20; with_reducible refine Calls.mono HC.out.1 ?_; rintro e w1 ⟨⟨N, hN, hr⟩, hb⟩; obtain ⟨ao3, n3, c3, b3, o3, rfl, hO⟩ := Rg.retO hr; have H1 := hid (And.intro hN (And.intro hO hb)); clear hN hr hO hb)
  go_ret
  exact ⟨⟨N, H1.out.1, _, _, _, b3, o3, rfl, Rg.Oz.mono H1.out.2.1 HC.out.2.size⟩, via HC.out.2 H1.out.2.2⟩
end Go.Proofs.YteiihgoobhlkbaaDoor
