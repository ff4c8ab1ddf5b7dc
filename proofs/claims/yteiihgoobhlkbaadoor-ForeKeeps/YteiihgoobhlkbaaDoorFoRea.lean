/- How far a rectangle reaches over nodes that move or grow: the contract. -/
import Derived.Test.YteiihgoobhlkbaaDoorFoRch
namespace Go.Proofs.YteiihgoobhlkbaaDoor
open Num Go.RowKit
open Rg.Num (Pr moveR grow join Ok)
set_option linter.unusedVariables false
set_option linter.unusedSimpArgs false

def joinR (l : List RR) : RR := l.foldl join Rg.Num.nil
def reaA (op : Int) (q : Nat → Int) (r : RR) : RR := if op = 1 then moveR r (q 0) (q 1) else grow r (q 0) (q 1) (q 0) (q 1)
theorem joinR_step {l : List RR} {k : Nat} {r : RR} (h : l[k]? = some r) : joinR (l.take (k + 1)) = join (joinR (l.take k)) r := by
  obtain ⟨hk, rfl⟩ := List.getElem?_eq_some_iff.1 h
  unfold joinR
  rw [List.take_succ_eq_append_getElem hk, List.foldl_append]
  rfl
theorem ok_joinF : ∀ (l : List RR) (a : RR), Ok a → (∀ r, r ∈ l → Ok r) → Ok (l.foldl join a)
  | [], a, ha, _ => ha
  | r :: l, a, ha, h => ok_joinF l _ (Rg.Num.ok_join ha (h r List.mem_cons_self)) fun s hs => h s (List.mem_cons_of_mem _ hs)
theorem ok_joinR {l : List RR} (h : ∀ r, r ∈ l → Ok r) : Ok (joinR l) := ok_joinF l _ Rg.Num.ok_nil h
theorem ok_reaA (op : Int) (q : Nat → Int) (r : RR) : Ok (reaA op q r) := by
  unfold reaA
  split
  · exact Rg.Num.ok_moveR _ _ _
  · exact Rg.Num.ok_grow _ _ _ _ _

/-- the node, the answer's cells and the rectangle so far, each in a block of its own -/
structure Rs (w wr : World) (op : Int) (ai : Option Addr) (ni ci : Nat) (ap : Option Addr) (np cp : Nat) (a : RR) : Prop where
  n : Nb wr w.heap.size op ai ni ci ap np cp
  z : Rg.Rc.Has4 wr (w.heap.size + 1) (.int .i64 0) (.int .i64 0) (.int .i64 0) (.int .i64 0)
  a : Rg.Rc.Has4 wr (w.heap.size + 1 + 1) (.int .i64 a.x0) (.int .i64 a.y0) (.int .i64 a.x1) (.int .i64 a.y1)
  low : Below w.heap.size w wr
section
variable {w wr w' : World} {op : Int} {ai : Option Addr} {ni ci : Nat} {ap : Option Addr} {np cp : Nat} {a : RR}
theorem Rs.to (h : Rs w wr op ai ni ci ap np cp a) (hb : Below wr.heap.size wr w') : Rs w w' op ai ni ci ap np cp a := ⟨h.n.below hb, h.z.below hb, h.a.below hb, via (w := w) h.low hb⟩
theorem rs_set (h : Rs w wr op ai ni ci ap np cp a) (r : RR) : Rs w ((((wr.setCell ⟨w.heap.size + 1 + 1, 0, none⟩ (.int .i64 r.x0)).setCell ⟨w.heap.size + 1 + 1, 1, none⟩ (.int .i64 r.y0)).setCell ⟨w.heap.size + 1 + 1, 2, none⟩ (.int .i64 r.x1)).setCell ⟨w.heap.size + 1 + 1, 3, none⟩ (.int .i64 r.y1)) op ai ni ci ap np cp r :=
  ⟨nb_else h.n (but_set4 _ _ _ _ _ _ _ _ _ _) (by omega), has4_else h.z (but_set4 _ _ _ _ _ _ _ _ _ _) (by omega), Rg.has4_set h.a _ _ _ _, Rg.below_set4 h.low (by omega) _ _ _ _ _ _ _ _⟩
end
theorem rs_new (w : World) (op : Int) (ai : Option Addr) (ni ci : Nat) (ap : Option Addr) (np cp : Nat) :
    Rs w (((w.alloc (.cells #[.int .i64 op, .slice ai ni ci, .slice ap np cp] 39)).alloc (.cells #[.int .i64 0, .int .i64 0, .int .i64 0, .int .i64 0] 34)).alloc (.cells #[.int .i64 0, .int .i64 0, .int .i64 0, .int .i64 0] 34)) op ai ni ci ap np cp Rg.Num.nil := by
  have n0 := nb_new w op ai ni ci ap np cp 39
  have b0 := al (W := w) (.cells #[.int .i64 op, .slice ai ni ci, .slice ap np cp] 39)
  have z0 : (w.alloc (.cells #[.int .i64 op, .slice ai ni ci, .slice ap np cp] 39)).heap.size = w.heap.size + 1 := by simp
  generalize (w.alloc (.cells #[.int .i64 op, .slice ai ni ci, .slice ap np cp] 39)) = W0 at *
  have b1 := al (W := W0) (.cells #[.int .i64 0, .int .i64 0, .int .i64 0, .int .i64 0] 34)
  have h1 := Rg.Rc.Has4.new (W := W0) (k := w.heap.size + 1) z0.symm (.int .i64 0) (.int .i64 0) (.int .i64 0) (.int .i64 0) 34
  have z1 : (W0.alloc (.cells #[.int .i64 0, .int .i64 0, .int .i64 0, .int .i64 0] 34)).heap.size = w.heap.size + 1 + 1 := by simp [z0]
  generalize (W0.alloc (.cells #[.int .i64 0, .int .i64 0, .int .i64 0, .int .i64 0] 34)) = W1 at *
  have b2 := al (W := W1) (.cells #[.int .i64 0, .int .i64 0, .int .i64 0, .int .i64 0] 34)
  have h2 := Rg.Rc.Has4.new (W := W1) (k := w.heap.size + 1 + 1) z1.symm (.int .i64 0) (.int .i64 0) (.int .i64 0) (.int .i64 0) 34
  exact ⟨(n0.below b1).below b2, h1.below b2, h2, via (via b0 b1) b2⟩

set_option maxRecDepth 100000 in
set_option maxHeartbeats 4000000 in
theorem reach_any (op : Int) (hop : op = 1 ∨ op = 2) (ai : Option Addr) (ni ci : Nat) (ap : Option Addr) (np cp bp ob : Nat) (p : List Int) (io : Option Addr) (n c b off : Nat) (l : List RR) (w : World)
    (hp : Vi w ap np cp bp ob p) (hV : Rg.Vw w io n c b off l) (hpr : Pr op (nth p)) (hok : ∀ r, r ∈ l → Ok r) :
    Calls Tryd.prog 23 #[.agg #[.int .i64 op, .slice ai ni ci, .slice ap np cp], .slice io n c] w fun e w' => e = .returned (.agg #[.int .i64 (reaA op (nth p) (joinR l)).x0, .int .i64 (reaA op (nth p) (joinR l)).y0, .int .i64 (reaA op (nth p) (joinR l)).x1, .int .i64 (reaA op (nth p) (joinR l)).y1]) ∧ Below w.heap.size w w' := by
  have hl := Rg.vw_len hV
  have hn := Rg.vw_small hV
  have H := hid (And.intro hp (And.intro hV (And.intro hpr (And.intro (ok_joinR hok) hl))))
  have H0 := hid (rs_new w op ai ni ci ap np cp)
  obtain ⟨Z, hZ⟩ : ∃ Z, Z = reaA op (nth p) (joinR l) := ⟨_, rfl⟩
  rw [← hZ]
  have HZ := hid hZ
  clear hp hV hpr hok hl hZ
  go_enter Tryd.func23, Tryd.ntmps23
  go_wp2
  go_loopg [11] n (fun g v11 wr => ∃ (k : Nat), k ≤ n ∧ g = n - k ∧ v11 = .int .i64 k ∧ Rs w wr op ai ni ci ap np cp (joinR (l.take k)))
  case atStart => exact ⟨0, Nat.zero_le _, rfl, rfl, H0.out⟩
  case round =>
    obtain ⟨k, hk, rfl, rfl, hA⟩ := hrel
    have HA := hid hA
    clear H0
    by_cases hlt : k < n
    · have hlz : (k : Int) < (n : Int) := by omega
      obtain ⟨r, hr⟩ : ∃ r, l[k]? = some r := ⟨_, List.getElem?_eq_getElem (by rw [H.out.2.2.2.2]; exact hlt)⟩
      obtain ⟨rfl, e0, e1, e2, e3⟩ := Rg.vw_at (Rg.Vz.below H.out.2.1 hA.low) hr
      have hbb : b < wr.heap.size := World.block_lt_of_cell? _ _ e0
      have HS := hid (joinR_step hr)
      have HR := hid hA.a
      have hkk : w.heap.size + 1 + 1 < wr.heap.size := World.block_lt_of_cell? _ _ hA.a.c0
      obtain ⟨a0, a1, a2, a3, af⟩ := id hA.a
      generalize joinR (l.take k) = A at *
      have HQ := hid (hA.to (al (W := wr) (.cells #[.int .i64 r.x0, .int .i64 r.y0, .int .i64 r.x1, .int .i64 r.y1] 34)))
      clear hA hr HR
      go_wp2_with (go_at_call 43; with_reducible refine Calls.mono (Rg.Rc.join_any A.x0 A.y0 A.x1 A.y1 r.x0 r.y0 r.x1 r.y1 _) ?_; rintro e w1 ⟨rfl, hb⟩; have HT := hid (HQ.out.to hb); obtain ⟨b0, b1, b2, b3, bf⟩ := HT.out.a; clear hb a0 a1 a2 a3 af)
      go_roundg (n - (k + 1))
      case measure => omega
      case rel => exact ⟨k + 1, hlt, rfl, by simp, by rw [HS.out]; exact rs_set HT.out _⟩
    · obtain rfl : n = k := by omega
      have hall : l.take n = l := List.take_of_length_le (by rw [H.out.2.2.2.2]; exact Nat.le_refl _)
      rw [hall] at HA
      have HO := hid H.out.2.2.2.1
      have HP := hid H.out.2.2.1
      have HI := hid (H.out.1.below HA.out.low)
      obtain ⟨k0, k1, k2⟩ := id HA.out.n
      clear hA hall hlt hk
      generalize joinR l = A at *
      rcases hop with h1 | h1
      · subst h1
        have hq := HP.out.m (Or.inl rfl)
        have HQ := hid (And.intro hq (show reaA 1 (nth p) A = moveR A (nth p 0) (nth p 1) from rfl))
        clear hq
        go_wp2_with (first
          | (go_at_call 34; with_reducible refine Calls.mono (param_any _ _ _ _ _ _ _ bp ob p _ HI.out) ?_; rintro e w2 ⟨rfl, hb⟩; have H2 := hid (HA.out.to hb); have j0 := H2.out.n.c0; have jj : w.heap.size < w2.heap.size := World.block_lt_of_cell? _ _ j0; obtain ⟨a0, a1, a2, a3, af⟩ := H2.out.a; have j1 : w.heap.size + 1 + 1 < w2.heap.size := World.block_lt_of_cell? _ _ a0; clear hb k0 k1 k2)
          | (go_at_call 44; with_reducible refine Calls.mono (Rg.Rc.move_any A.x0 A.y0 A.x1 A.y1 (nth p 0) (nth p 1) _ HO.out (by have := HQ.out.1.1; omega) (by have := HQ.out.1.2; omega)) ?_; rintro e w4 ⟨rfl, hb⟩; have H4 := hid ((H2.out.to (al _)).to hb); obtain ⟨b0, b1, b2, b3, bf⟩ := H4.out.z; clear hb))
        obtain ⟨s0, s1, s2, s3⟩ := Rg.Rc.set4 b0 b1 b2 b3 (.int .i64 (moveR ⟨A.x0, A.y0, A.x1, A.y1⟩ (nth p 0) (nth p 1)).x0) (.int .i64 (moveR ⟨A.x0, A.y0, A.x1, A.y1⟩ (nth p 0) (nth p 1)).y0) (.int .i64 (moveR ⟨A.x0, A.y0, A.x1, A.y1⟩ (nth p 0) (nth p 1)).x1) (.int .i64 (moveR ⟨A.x0, A.y0, A.x1, A.y1⟩ (nth p 0) (nth p 1)).y1)
        refine bodyPost_ret (v := .agg #[.int .i64 (moveR ⟨A.x0, A.y0, A.x1, A.y1⟩ (nth p 0) (nth p 1)).x0, .int .i64 (moveR ⟨A.x0, A.y0, A.x1, A.y1⟩ (nth p 0) (nth p 1)).y0, .int .i64 (moveR ⟨A.x0, A.y0, A.x1, A.y1⟩ (nth p 0) (nth p 1)).x1, .int .i64 (moveR ⟨A.x0, A.y0, A.x1, A.y1⟩ (nth p 0) (nth p 1)).y1]) (by simp [results, Tryd.results23, go_sem, s0, s1, s2, s3]) rfl ⟨by rw [HZ.out, HQ.out.2], ?_⟩
        exact Rg.below_set4 H4.out.low (Nat.le_succ _) _ _ _ _ _ _ _ _
      · subst h1
        have hq := HP.out.g (Or.inl rfl)
        have HQ := hid (And.intro hq (show reaA 2 (nth p) A = grow A (nth p 0) (nth p 1) (nth p 0) (nth p 1) from rfl))
        clear hq
        go_wp2_with (first
          | (go_at_call 34; with_reducible refine Calls.mono (param_any _ _ _ _ _ _ _ bp ob p _ HI.out) ?_; rintro e w2 ⟨rfl, hb⟩; have H2 := hid (HA.out.to hb); have j0 := H2.out.n.c0; have jj : w.heap.size < w2.heap.size := World.block_lt_of_cell? _ _ j0; obtain ⟨a0, a1, a2, a3, af⟩ := H2.out.a; have j1 : w.heap.size + 1 + 1 < w2.heap.size := World.block_lt_of_cell? _ _ a0; clear hb k0 k1 k2)
          | (go_at_call 45; with_reducible refine Calls.mono (Rg.Rc.grow_any A.x0 A.y0 A.x1 A.y1 (nth p 0) (nth p 1) (nth p 0) (nth p 1) _ HO.out (by have := HQ.out.1.1; omega) (by have := HQ.out.1.2; omega) (by have := HQ.out.1.1; omega) (by have := HQ.out.1.2; omega)) ?_; rintro e w4 ⟨rfl, hb⟩; have H4 := hid ((H2.out.to (al _)).to hb); obtain ⟨b0, b1, b2, b3, bf⟩ := H4.out.z; clear hb))
        obtain ⟨s0, s1, s2, s3⟩ := Rg.Rc.set4 b0 b1 b2 b3 (.int .i64 (grow ⟨A.x0, A.y0, A.x1, A.y1⟩ (nth p 0) (nth p 1) (nth p 0) (nth p 1)).x0) (.int .i64 (grow ⟨A.x0, A.y0, A.x1, A.y1⟩ (nth p 0) (nth p 1) (nth p 0) (nth p 1)).y0) (.int .i64 (grow ⟨A.x0, A.y0, A.x1, A.y1⟩ (nth p 0) (nth p 1) (nth p 0) (nth p 1)).x1) (.int .i64 (grow ⟨A.x0, A.y0, A.x1, A.y1⟩ (nth p 0) (nth p 1) (nth p 0) (nth p 1)).y1)
        refine bodyPost_ret (v := .agg #[.int .i64 (grow ⟨A.x0, A.y0, A.x1, A.y1⟩ (nth p 0) (nth p 1) (nth p 0) (nth p 1)).x0, .int .i64 (grow ⟨A.x0, A.y0, A.x1, A.y1⟩ (nth p 0) (nth p 1) (nth p 0) (nth p 1)).y0, .int .i64 (grow ⟨A.x0, A.y0, A.x1, A.y1⟩ (nth p 0) (nth p 1) (nth p 0) (nth p 1)).x1, .int .i64 (grow ⟨A.x0, A.y0, A.x1, A.y1⟩ (nth p 0) (nth p 1) (nth p 0) (nth p 1)).y1]) (by simp [results, Tryd.results23, go_sem, s0, s1, s2, s3]) rfl ⟨by rw [HZ.out, HQ.out.2], ?_⟩
        exact Rg.below_set4 H4.out.low (Nat.le_succ _) _ _ _ _ _ _ _ _
end Go.Proofs.YteiihgoobhlkbaaDoor
