/- How far a rectangle reaches over a filter whose nodes move or grow: the contract. -/
import Derived.Test.YteiihgoobhlkbaaDoorFoRea
namespace Go.Proofs.YteiihgoobhlkbaaDoor
open Num Go.RowKit
open Rg.Num (Pr moveR grow join Ok)
set_option linter.unusedVariables false
set_option linter.unusedSimpArgs false

def makeR (v : Nv) (s : RR) (K : List RR) : RR := reaA v.op (nth v.p) (joinR (v.l.map (inR s K)))
def stepR (L : List Nv) (N : List Bool) (s : RR) (K : List RR) (a : Nat) : List RR := match L[a]? with
  | some v => if bt N a = true then K.set a (makeR v s K) else K
  | none => K
def runR (L : List Nv) (N : List Bool) (s : RR) (o : List Nat) (K : List RR) : List RR := o.foldl (stepR L N s) K
def reachG (L : List Nv) (N : List Bool) (out : Int) (s : RR) : RR := pickR (runR L N s (ordG (insL L)) (Rg.zeros L.length)) out
theorem stepR_yes {L : List Nv} {N : List Bool} {a : Nat} {v : Nv} (hv : L[a]? = some v) (hN : bt N a = true) (s : RR) (K : List RR) : stepR L N s K a = K.set a (makeR v s K) := by
  unfold stepR; rw [hv]; dsimp only; rw [if_pos hN]
theorem stepR_no {L : List Nv} {N : List Bool} {a : Nat} (hN : bt N a = false) (s : RR) (K : List RR) : stepR L N s K a = K := by
  unfold stepR
  split
  · rw [if_neg (by simp [hN])]
  · rfl
theorem runR_cons {L : List Nv} {N : List Bool} {s : RR} {o : List Nat} {k a : Nat} (h : o[k]? = some a) (K : List RR) : runR L N s (o.drop k) K = runR L N s (o.drop (k + 1)) (stepR L N s K a) := by
  obtain ⟨hk, rfl⟩ := List.getElem?_eq_some_iff.1 h
  unfold runR
  rw [List.drop_eq_getElem_cons hk]
  rfl
theorem ok_pickR {K : List RR} (h : ∀ r, r ∈ K → Ok r) (x : Int) : Ok (pickR K x) := by
  unfold pickR
  split
  · rename_i hx
    have hlt : x.toNat < K.length := by omega
    rw [List.getD_eq_getElem?_getD, List.getElem?_eq_getElem hlt]
    exact h _ (List.getElem_mem hlt)
  · exact Rg.Num.ok_nil
theorem ok_ins {s : RR} (hs : Ok s) {K : List RR} (h : ∀ r, r ∈ K → Ok r) (l : List Int) : ∀ r, r ∈ l.map (inR s K) → Ok r := fun r hr => by
  obtain ⟨x, -, rfl⟩ := List.mem_map.1 hr
  unfold inR
  split
  · exact hs
  · exact ok_pickR h x
theorem ok_set {K : List RR} (h : ∀ r, r ∈ K → Ok r) {v : RR} (hv : Ok v) (a : Nat) : ∀ r, r ∈ K.set a v → Ok r := fun r hr => by
  rcases List.mem_or_eq_of_mem_set hr with hr | rfl
  · exact h r hr
  · exact hv

/-- the box of the filter, a node of it, the source, and all that was there -/
abbrev Sp8 (w : World) (ao : Option Addr) (n c b o : Nat) (op : Int) (ai : Option Addr) (ni ci : Nat) (ap : Option Addr) (np cp : Nat) (s : RR) (w' : World) : Prop := (w'.cell? ⟨w.heap.size, 0, none⟩ = some (.slice ao n c) ∧ w'.cell? ⟨b, o, none⟩ = some (.int .i64 op) ∧ w'.cell? ⟨b, o + 1, none⟩ = some (.slice ai ni ci) ∧ w'.cell? ⟨b, o + 2, none⟩ = some (.slice ap np cp) ∧ w'.cell? ⟨w.heap.size + 1, 0, none⟩ = some (.int .i64 s.x0) ∧ w'.cell? ⟨w.heap.size + 1, 1, none⟩ = some (.int .i64 s.y0) ∧ w'.cell? ⟨w.heap.size + 1, 2, none⟩ = some (.int .i64 s.x1) ∧ w'.cell? ⟨w.heap.size + 1, 3, none⟩ = some (.int .i64 s.y1)) ∧ Below w.heap.size w w'
section
variable {w : World} {ao : Option Addr} {n c b o : Nat} {op : Int} {ai : Option Addr} {ni ci : Nat} {ap : Option Addr} {np cp : Nat} {s : RR} {w' : World}
theorem sp8_drew (h : Sp8 w ao n c b o op ai ni ci ap np cp s w') : Sp8 w ao n c b o op ai ni ci ap np cp s w'.drew := ⟨h.1, h.2.drew⟩
theorem sp8_below {w2 : World} (h : Sp8 w ao n c b o op ai ni ci ap np cp s w') (hb : Below w'.heap.size w' w2) : Sp8 w ao n c b o op ai ni ci ap np cp s w2 := by
  obtain ⟨⟨h0, h1, h2, h3, h4, h5, h6, h7⟩, hB⟩ := h
  exact ⟨⟨cell_below hb h0, cell_below hb h1, cell_below hb h2, cell_below hb h3, cell_below hb h4, cell_below hb h5, cell_below hb h6, cell_below hb h7⟩, via hB hb⟩
theorem sp8_set {g i : Nat} {v : Value} (h : Sp8 w ao n c b o op ai ni ci ap np cp s w') (hg : w.heap.size + 1 < g ∧ b < w.heap.size) : Sp8 w ao n c b o op ai ni ci ap np cp s (w'.setCell ⟨g, i, none⟩ v) := by
  obtain ⟨⟨h0, h1, h2, h3, h4, h5, h6, h7⟩, hB⟩ := h
  exact ⟨⟨cell_else _ _ (by omega) h0, cell_else _ _ (by omega) h1, cell_else _ _ (by omega) h2, cell_else _ _ (by omega) h3, cell_else _ _ (by omega) h4, cell_else _ _ (by omega) h5, cell_else _ _ (by omega) h6, cell_else _ _ (by omega) h7⟩, hB.setCell (p := ⟨g, i, none⟩) (by show w.heap.size ≤ g; omega) _⟩
end
/-- a node's reach, beside what is known -/
theorem reach_c {w W : World} {op : Int} (hop : op = 1 ∨ op = 2) {ai : Option Addr} {ni ci : Nat} {ap : Option Addr} {np cp bp ob : Nat} {p l : List Int} {io : Option Addr} {n c b off : Nat} {s : RR} {K : List RR}
    (hp : Vi W ap np cp bp ob p) (hV : Rg.Vw W io n c b off (l.map (inR s K))) (hpr : Pr op (nth p)) (hs : Ok s) (hK : ∀ r, r ∈ K → Ok r) :
    Calls Tryd.prog 23 #[.agg #[.int .i64 op, .slice ai ni ci, .slice ap np cp], .slice io n c] W fun e w' => ∃ u : RR, e = .returned (.agg #[.int .i64 u.x0, .int .i64 u.y0, .int .i64 u.x1, .int .i64 u.y1]) ∧ Hid (u = reaA op (nth p) (joinR (l.map (inR s K)))) ∧ Below W.heap.size W w' :=
  (reach_any op hop ai ni ci ap np cp bp ob p io n c b off _ W hp hV hpr (ok_ins hs hK l)).mono fun e w' ⟨he, hb⟩ => ⟨_, he, rfl, hb⟩
theorem enter_reach (args : Array Value) (w : World) : (callFunc 23 args).run Tryd.prog w = .ok (.enter 23 args) w := by
  simp [callFunc, go_sem]
  rw [if_neg (by simp [Tryd.f23]), if_neg (by simp [Tryd.f23])]

/-- what stands while a filter's reach is made: the boxes, what is known, the marks and the order -/
structure Rx (w wr : World) (ao : Option Addr) (n c : Nat) (out : Int) (s : RR) (K : List RR) (aoN : Option Addr) (nN cN bN oN : Nat) (N : List Bool) : Prop where
  g : Sg w ao n c out wr
  s : Rg.Rc.Has4 wr (w.heap.size + 1) (.int .i64 s.x0) (.int .i64 s.y0) (.int .i64 s.x1) (.int .i64 s.y1)
  z : Rg.Rc.Has4 wr (w.heap.size + 1 + 1) (.int .i64 0) (.int .i64 0) (.int .i64 0) (.int .i64 0)
  k : Rg.Ow w.heap.size wr (some ⟨w.heap.size + 1 + 1 + 1, 0, none⟩) n n (w.heap.size + 1 + 1 + 1) 0 K
  t : Ot (w.heap.size + 1 + 1 + 1 + 1) wr aoN nN cN bN oN N
section
variable {w wr w' : World} {ao : Option Addr} {n c : Nat} {out : Int} {s : RR} {K : List RR} {aoN : Option Addr} {nN cN bN oN : Nat} {N : List Bool}
theorem Rx.to (h : Rx w wr ao n c out s K aoN nN cN bN oN N) (hb : Below wr.heap.size wr w') : Rx w w' ao n c out s K aoN nN cN bN oN N := ⟨sg_below h.g hb, h.s.below hb, h.z.below hb, Rg.Oz.below h.k hb, h.t.below hb⟩
theorem rx_set (h : Rx w wr ao n c out s K aoN nN cN bN oN N) {a : Nat} (ha : a < K.length) (r : RR) :
    Rx w ((((wr.setCell ⟨w.heap.size + 1 + 1 + 1, a * 4, none⟩ (.int .i64 r.x0)).setCell ⟨w.heap.size + 1 + 1 + 1, a * 4 + 1, none⟩ (.int .i64 r.y0)).setCell ⟨w.heap.size + 1 + 1 + 1, a * 4 + 2, none⟩ (.int .i64 r.x1)).setCell ⟨w.heap.size + 1 + 1 + 1, a * 4 + 3, none⟩ (.int .i64 r.y1)) ao n c out s (K.set a r) aoN nN cN bN oN N := by
  have hb := but_set4 wr (w.heap.size + 1 + 1 + 1) (a * 4) (a * 4 + 1) (a * 4 + 2) (a * 4 + 3) (.int .i64 r.x0) (.int .i64 r.y0) (.int .i64 r.x1) (.int .i64 r.y1)
  have hw : w.heap.size < wr.heap.size := World.block_lt_of_cell? _ _ h.g.1.1
  have hc : ∀ j, _ := fun j => World.cell?_of_block (a := ⟨w.heap.size, j, none⟩) (hb.block w.heap.size hw (by omega))
  exact ⟨⟨⟨(hc 0).trans h.g.1.1, (hc 1).trans h.g.1.2⟩, Rg.below_set4 h.g.2 (by omega) _ _ _ _ _ _ _ _⟩, has4_else h.s hb (by omega), has4_else h.z hb (by omega), Rg.ow_set40 h.k ha r, Oz.but h.t hb (fun hc => by have := (h.t.new hc).1; omega)⟩
end
theorem rx_vw {w wr : World} {ao : Option Addr} {n c : Nat} {out : Int} {s : RR} {K : List RR} {aoN : Option Addr} {nN cN bN oN : Nat} {N : List Bool} (h : Rx w wr ao n c out s K aoN nN cN bN oN N) : Rg.Vw wr.drew (some ⟨w.heap.size + 1 + 1 + 1, 0, none⟩) n n (w.heap.size + 1 + 1 + 1) 0 K := (Rg.Oz.below h.k (Below.refl _ _).drew).v
theorem rx_new (w : World) (ao : Option Addr) (n c : Nat) (out : Int) (s : RR) (hn : n ≤ 1000000) (W : World) (hW : W = (((w.alloc (.cells #[.slice ao n c, .int .i64 out] 24)).alloc (.cells #[.int .i64 s.x0, .int .i64 s.y0, .int .i64 s.x1, .int .i64 s.y1] 34)).alloc (.cells #[.int .i64 0, .int .i64 0, .int .i64 0, .int .i64 0] 34)).alloc (.cells (Rg.zeroCs n) 34)) :
    W.heap.size = w.heap.size + 1 + 1 + 1 + 1 ∧ Sg w ao n c out W ∧ Rg.Rc.Has4 W (w.heap.size + 1) (.int .i64 s.x0) (.int .i64 s.y0) (.int .i64 s.x1) (.int .i64 s.y1) ∧ Rg.Rc.Has4 W (w.heap.size + 1 + 1) (.int .i64 0) (.int .i64 0) (.int .i64 0) (.int .i64 0) ∧ Rg.Ow w.heap.size W (some ⟨w.heap.size + 1 + 1 + 1, 0, none⟩) n n (w.heap.size + 1 + 1 + 1) 0 (Rg.zeros n) := by
  subst hW
  have h0 := sg_new w ao n c out 24
  have z0 : (w.alloc (.cells #[.slice ao n c, .int .i64 out] 24)).heap.size = w.heap.size + 1 := by simp
  generalize (w.alloc (.cells #[.slice ao n c, .int .i64 out] 24)) = W0 at *
  have b1 := al (W := W0) (.cells #[.int .i64 s.x0, .int .i64 s.y0, .int .i64 s.x1, .int .i64 s.y1] 34)
  have h1 := Rg.Rc.Has4.new (W := W0) (k := w.heap.size + 1) z0.symm (.int .i64 s.x0) (.int .i64 s.y0) (.int .i64 s.x1) (.int .i64 s.y1) 34
  have z1 : (W0.alloc (.cells #[.int .i64 s.x0, .int .i64 s.y0, .int .i64 s.x1, .int .i64 s.y1] 34)).heap.size = w.heap.size + 1 + 1 := by simp [z0]
  generalize (W0.alloc (.cells #[.int .i64 s.x0, .int .i64 s.y0, .int .i64 s.x1, .int .i64 s.y1] 34)) = W1 at *
  have b2 := al (W := W1) (.cells #[.int .i64 0, .int .i64 0, .int .i64 0, .int .i64 0] 34)
  have h2 := Rg.Rc.Has4.new (W := W1) (k := w.heap.size + 1 + 1) z1.symm (.int .i64 0) (.int .i64 0) (.int .i64 0) (.int .i64 0) 34
  have z2 : (W1.alloc (.cells #[.int .i64 0, .int .i64 0, .int .i64 0, .int .i64 0] 34)).heap.size = w.heap.size + 1 + 1 + 1 := by simp [z1]
  generalize (W1.alloc (.cells #[.int .i64 0, .int .i64 0, .int .i64 0, .int .i64 0] 34)) = W2 at *
  have b3 := al (W := W2) (.cells (Rg.zeroCs n) 34)
  have h3 := zeros_new (w := W2) (B := w.heap.size) (by omega) n hn
  rw [z2] at h3
  exact ⟨by simp [z2], sg_below (sg_below (sg_below h0 b1) b2) b3, (h1.below b2).below b3, h2.below b3, h3⟩

set_option maxRecDepth 100000 in
set_option maxHeartbeats 4000000 in
theorem overR_any (ao : Option Addr) (n c b off : Nat) (L : List Nv) (out : Int) (s : RR) (w : World) (h : Vn w ao n c b off L) (hf : Few n L) (hs : Ok s) (hp : ∀ v, v ∈ L → Pr v.op (nth v.p)) (hop : ∀ v, v ∈ L → v.op = 1 ∨ v.op = 2) (hn6 : n ≤ 6) :
    Calls Tryd.prog 22 #[.agg #[.slice ao n c, .int .i64 out], .agg #[.int .i64 s.x0, .int .i64 s.y0, .int .i64 s.x1, .int .i64 s.y1], .func (.func 23) #[] #[]] w fun e w' => (∃ N, Nd (insL L) out N ∧ e = .returned (.agg #[.int .i64 (reachG L N out s).x0, .int .i64 (reachG L N out s).y0, .int .i64 (reachG L N out s).x1, .int .i64 (reachG L N out s).y1])) ∧ Below w.heap.size w w' := by
  have hl := vn_len h
  have he := enter_reach
  have hm := Rg.run_zeros n (by omega)
  have H0 := hid (rx_new w ao n c out s (by omega) _ rfl)
  have H := hid (And.intro h (And.intro hf (And.intro hs (And.intro hp (And.intro hl (And.intro (ord_len L) hop))))))
  clear h hf hs hp hl hop
  go_enter Tryd.func22, Tryd.ntmps22
  go_wp2_with (first
    | (go_at_call 29; with_reducible refine Calls.mono (needed_any _ _ _ b off L _ _ (H.out.1.below H0.out.2.1.2) H.out.2.1) ?_; rintro e w1 ⟨⟨N, hr, hN⟩, hb⟩; obtain ⟨aoN, nN, cN, bN, oN, rfl, hT⟩ := retT hr; have H1 := hid (And.intro (sg_below H0.out.2.1 hb) (And.intro (H0.out.2.2.1.below hb) (And.intro (H0.out.2.2.2.1.below hb) (And.intro (Rg.Oz.below H0.out.2.2.2.2 hb) (And.intro hT (And.intro hN hb.size)))))); obtain ⟨c0, c1⟩ := (sg_below H0.out.2.1 hb).1; clear hr hT hN hb)
    | (go_at_call 30; with_reducible refine Calls.mono (all_any _ _ _ b off L _ _ (H.out.1.below H1.out.1.2) H.out.2.1) ?_; rintro e w2 ⟨hr, hb⟩; obtain ⟨aoO, nO, cO, bO, oO, rfl, hO⟩ := retI hr; have H2 := hid (And.intro (sg_below H1.out.1 hb) (And.intro (H1.out.2.1.below hb) (And.intro (H1.out.2.2.1.below hb) (And.intro (Rg.Oz.below H1.out.2.2.2.1 hb) (And.intro (H1.out.2.2.2.2.1.below hb) (hO.mono H1.out.2.2.2.2.2.2)))))); clear hr hO hb))
  have hOl : nO ≤ n := by rw [← vi_len H2.out.2.2.2.2.2.v, castL_len]; have h1 := H.out.2.2.2.2.2.1; have h2 := H.out.2.2.2.2.1; omega
  have hNl : N.length = n := by have h1 := H1.out.2.2.2.2.2.1.len; rw [insL_len, H.out.2.2.2.2.1] at h1; exact h1
  obtain ⟨F, hF⟩ : ∃ F, F = runR L N s (ordG (insL L)) (Rg.zeros L.length) := ⟨_, rfl⟩
  obtain ⟨O, hO⟩ : ∃ O, O = ordG (insL L) := ⟨_, rfl⟩
  have hlt : ∀ a, a ∈ O → a < n := fun a ha => by rw [hO] at ha; have := (ordG_ord (insL L)).lt a ha; rw [insL_len, H.out.2.2.2.2.1] at this; exact this
  have hTN := H2.out.2.2.2.2.1
  have hTO := H2.out.2.2.2.2.2
  rw [H0.out.1] at hTN hTO
  rw [← hO] at hTO
  have H3 : Hid (Rx w w2 ao n c out s (Rg.zeros n) aoN nN cN bN oN N ∧ Oi (w.heap.size + 1 + 1 + 1 + 1) w2 aoO nO cO bO oO (castL O)) := hid ⟨⟨H2.out.1, H2.out.2.1, H2.out.2.2.1, H2.out.2.2.2.1, hTN⟩, hTO⟩
  have HN := hid H1.out.2.2.2.2.2.1
  have H4 := hid (And.intro hlt (And.intro hNl (And.intro hF hO)))
  have hrel0 : runR L N s (O.drop 0) (Rg.zeros n) = F := by rw [hF, hO, H.out.2.2.2.2.1]; rfl
  have hok0 : ∀ r, r ∈ Rg.zeros n → Ok r := fun r hr => by unfold Rg.zeros at hr; rw [List.mem_replicate] at hr; rw [hr.2]; exact Rg.Num.ok_nil
  have HS := hid (And.intro hrel0 hok0)
  clear hlt hNl hF hO hTN hTO hrel0 hok0 H0 H1 H2 hm c0 c1
  go_loopg [20] nO (fun gk v20 wr => ∃ (k : Nat) (K : List RR), k ≤ nO ∧ gk = nO - k ∧ v20 = .int .i64 k ∧ Rx w wr ao n c out s K aoN nN cN bN oN N ∧ Oi (w.heap.size + 1 + 1 + 1 + 1) wr aoO nO cO bO oO (castL O) ∧ (∀ r, r ∈ K → Ok r) ∧ runR L N s (O.drop k) K = F)
  case atStart => exact ⟨0, _, Nat.zero_le _, rfl, rfl, H3.out.1, H3.out.2, HS.out.2, HS.out.1⟩
  case round =>
    obtain ⟨k, K, hk, rfl, rfl, hK, hO, hok, hR⟩ := hrel
    have HK := hid (And.intro hK (And.intro hO (And.intro hok hR)))
    have hKl := Rg.vw_len hK.k.v
    clear H3 HS
    by_cases hlt : k < nO
    · have hlz : (k : Int) < (nO : Int) := by omega
      have hOl2 : O.length = nO := by have := vi_len hO.v; rw [castL_len] at this; exact this
      obtain ⟨a, ha⟩ : ∃ a, O[k]? = some a := ⟨_, List.getElem?_eq_getElem (by omega)⟩
      have han : a < n := H4.out.1 a (List.mem_of_getElem? ha)
      have haz : (a : Int) < (n : Int) := by omega
      have hNn : nN = n := by rw [← vt_len hK.t.v]; exact H4.out.2.1
      subst hNn
      obtain ⟨rfl, e0⟩ := vi_at hO.v (castL_get ha)
      obtain ⟨rfl, e1⟩ := vt_at hK.t.v (bt_get (D := N) (i := a) (by rw [H4.out.2.1]; exact han))
      have HR := hid (runR_cons (L := L) (N := N) (s := s) ha K)
      clear hO hok hR hOl2
      rcases hba : bt N a with _ | _
      · rw [hba] at e1
        have HE := hid (stepR_no (L := L) hba s K)
        clear hba ha hK
        go_wp2
        go_roundg (nO - (k + 1))
        case measure => omega
        case rel => exact ⟨k + 1, K, hlt, rfl, by simp, HK.out.1, HK.out.2.1, HK.out.2.2.1, by rw [← HK.out.2.2.2, HR.out, HE.out]⟩
      · rw [hba] at e1
        obtain ⟨v, hv⟩ : ∃ v, L[a]? = some v := ⟨_, List.getElem?_eq_getElem (by rw [H.out.2.2.2.2.1]; exact han)⟩
        have HE := hid (stepR_yes hv hba s K)
        have hm := List.mem_of_getElem? hv
        have HM := hid (And.intro (H.out.2.2.2.1 v hm) (And.intro (H.out.2.1.i v hm) (H.out.2.2.2.2.2.2 v hm)))
        obtain ⟨rfl, ⟨f0, f1, f2⟩, hvi, hvp⟩ := vn_at (H.out.1.below hK.g.2) hv
        have HV := hid (And.intro hvi hvp)
        have hbw : b < w.heap.size := by
          have := (vn_at H.out.1 hv).2.1.1
          exact World.block_lt_of_cell? _ _ this
        have hgb : w.heap.size + 1 < w.heap.size + 1 + 1 + 1 ∧ b < w.heap.size := ⟨by omega, hbw⟩
        have hg0 := hK.g.1.1
        have hS : Sp8 w (some ⟨b, off, none⟩) nN c b (off + a * 3) v.op v.ai v.ni v.ci v.ap v.np v.cp s wr := ⟨⟨hg0, f0, f1, f2, hK.s.c0, hK.s.c1, hK.s.c2, hK.s.c3⟩, hK.g.2⟩
        have hKa : a < K.length := by omega
        clear hba ha hv hm hvi hvp hbw hK
        go_wp2
        clear e0 e1 f0 f1 f2 hg0
        go_region_held3 (fun w' => (w'.cell? ⟨w.heap.size, 0, none⟩ = some (.slice (some ⟨b, off, none⟩) nN c) ∧ w'.cell? ⟨b, off + a * 3, none⟩ = some (.int .i64 v.op) ∧ w'.cell? ⟨b, off + a * 3 + 1, none⟩ = some (.slice v.ai v.ni v.ci) ∧ w'.cell? ⟨b, off + a * 3 + 2, none⟩ = some (.slice v.ap v.np v.cp) ∧ w'.cell? ⟨w.heap.size + 1, 0, none⟩ = some (.int .i64 s.x0) ∧ w'.cell? ⟨w.heap.size + 1, 1, none⟩ = some (.int .i64 s.y0) ∧ w'.cell? ⟨w.heap.size + 1, 2, none⟩ = some (.int .i64 s.x1) ∧ w'.cell? ⟨w.heap.size + 1, 3, none⟩ = some (.int .i64 s.y1)) ∧ Below w.heap.size w w') (repeat (first | with_reducible assumption | with_reducible refine sp8_drew ?_ | with_reducible refine sp8_below ?_ ‹_› | with_reducible refine sp8_set ?_ ‹_›)) ((first
          | (go_at_call 41; with_reducible refine Calls.mono (inputsR_any v.op v.ai v.ni v.ci v.bi v.oi v.l v.ap v.np v.cp s _ _ _ _ _ K wr.drew (HV.out.1.below (Below.refl _ _).drew) HM.out.2.1 (rx_vw HK.out.1)) ?_; rintro e w4 ⟨hr, hb4⟩; obtain ⟨io, m4, c4, b4, o4, rfl, hF⟩ := Rg.retV hr; have H6 := hid (And.intro hF (And.intro ((HK.out.1.to (Below.refl _ _).drew).to hb4) (And.intro (HV.out.2.below (via (Below.refl _ _).drew hb4)) ((oz_drew HK.out.2.1).below hb4)))); clear hr hF)
          | (go_at_call 23; with_reducible refine Calls.mono (reach_c (w := w) HM.out.2.2 H6.out.2.2.1 H6.out.1 HM.out.1 H.out.2.2.1 HK.out.2.2.1) ?_; rintro e w5 ⟨u, rfl, hU, hb5⟩; have H7 := hid (And.intro hU.out (And.intro (H6.out.2.1.to hb5) (H6.out.2.2.2.below hb5))); obtain ⟨r', g0, g1, g2, g3, q0, q1, q2, q3⟩ := Rg.ow_four0 H7.out.2.1.k hKa; clear hU)))
        rename_i hh
        clear hS hh hgb g0 g1 g2 g3 q0 q1 q2 q3
        go_wp2
        go_roundg (nO - (k + 1))
        case measure => omega
        case rel =>
          refine ⟨k + 1, K.set a u, hlt, rfl, by simp, rx_set H7.out.2.1 hKa u, Oz.but H7.out.2.2 (but_set4 _ _ _ _ _ _ _ _ _ _) (fun hc => by have := (H7.out.2.2.new hc).1; omega), ?_, ?_⟩
          · rw [H7.out.1]
            exact ok_set HK.out.2.2.1 (ok_reaA _ _ _) a
          · rw [← HK.out.2.2.2, HR.out, HE.out, H7.out.1]
            rfl
    · obtain rfl : nO = k := by omega
      have hOl2 : O.length = nO := by have := vi_len hO.v; rw [castL_len] at this; exact this
      have hFK : K = F := by
        rw [List.drop_eq_nil_of_le (by omega)] at hR
        exact hR
      have hpick : pickR K out = reachG L N out s := by rw [hFK, H4.out.2.2.1]; rfl
      have HP := hid hpick
      obtain ⟨g0, g1⟩ := hK.g.1
      clear hO hok hR hOl2 hFK hpick
      go_wp2_with (go_at_call 42; with_reducible refine Calls.mono (pickR_any out _ _ _ _ _ K _ HK.out.1.k.v) ?_; rintro e w1 ⟨rfl, hb⟩; have H9 := hid (HK.out.1.to hb); obtain ⟨b0, b1, b2, b3, bf⟩ := H9.out.z; clear hb)
      obtain ⟨s0, s1, s2, s3⟩ := Rg.Rc.set4 b0 b1 b2 b3 (.int .i64 (pickR K out).x0) (.int .i64 (pickR K out).y0) (.int .i64 (pickR K out).x1) (.int .i64 (pickR K out).y1)
      refine bodyPost_ret (v := .agg #[.int .i64 (pickR K out).x0, .int .i64 (pickR K out).y0, .int .i64 (pickR K out).x1, .int .i64 (pickR K out).y1]) (by simp [results, Tryd.results22, go_sem, s0, s1, s2, s3]) rfl ⟨⟨N, HN.out, by rw [← HP.out]⟩, ?_⟩
      exact Rg.below_set4 H9.out.g.2 (by omega) _ _ _ _ _ _ _ _
end Go.Proofs.YteiihgoobhlkbaaDoor
