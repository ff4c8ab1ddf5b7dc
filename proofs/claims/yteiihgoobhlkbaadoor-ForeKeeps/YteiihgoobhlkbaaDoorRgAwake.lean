/- The document's tests, and the answers that it fixes: contracts. -/
import Derived.Test.YteiihgoobhlkbaaDoorRgRight
import Derived.Test.YteiihgoobhlkbaaDoorRgOfs
namespace Go.Proofs.YteiihgoobhlkbaaDoor.Rg
open Num Go.RowKit
set_option linter.unusedVariables false
set_option linter.unusedSimpArgs false

theorem refOf_any (W : World) (ao : Option Addr) (n c b off : Nat) (l : List R) (h : Vw W ao n c b off l) (hN : l.length ≤ 1000) :
    Calls Tryd.prog 27 #[.slice ao n c] W fun e w' => RetO W.heap.size w' e (setsL orF l []) ∧ Below W.heap.size W w' := by
  have C := hid (sets_any 0 orF (.inl ⟨rfl, rfl⟩) W ao n c b off l none 0 0 0 0 [] h (vw_nil _ _) (by simpa using hN))
  clear h
  go_enter Tryd.func27, Tryd.ntmps27
  go_wp2_with (go_at_call 8; with_reducible refine Calls.mono C.out ?_; rintro e w1 ⟨hr, hb⟩; have HB := hid hb; obtain ⟨ao3, n3, c3, b3, off3, rfl, hv3⟩ := retO hr; have HV := hid hv3; clear hr hb hv3)
  go_ret
  exact ⟨⟨_, _, _, _, _, rfl, HV.out⟩, HB.out⟩

set_option maxRecDepth 100000 in
set_option maxHeartbeats 1000000 in
theorem refRight_any (ao : Option Addr) (n c b off : Nat) (l : List R) (w : World) (h : Vw w ao n c b off l) (hN : l.length ≤ 1000) :
    Calls Tryd.prog 16 #[.slice ao n c] w fun e w' => e = .returned (.bool (refRightB l)) ∧ Below w.heap.size w w' := by
  have hn := vw_small h
  have H : Hid (Vw w ao n c b off l ∧ l.length = n) := ⟨h, vw_len h⟩
  clear h
  go_enter Tryd.func16, Tryd.ntmps16
  go_wp2
  go_loopg [3] n (fun g i wr => ∃ k : Nat, k ≤ n ∧ g = n - k ∧ i = .int .i64 k ∧ Below w.heap.size w wr ∧ (l.drop k).all (fun r => rightB r && !empB r) = l.all (fun r => rightB r && !empB r))
  case atStart => exact ⟨0, Nat.zero_le _, rfl, rfl, Below.refl _ _, rfl⟩
  case round =>
    obtain ⟨k, hk, rfl, rfl, hB, hS⟩ := hrel
    have HB := hid hB
    by_cases hlt : k < n
    · have hlz : (k : Int) < (n : Int) := by omega
      obtain ⟨r, hr⟩ : ∃ s, l[k]? = some s := ⟨_, List.getElem?_eq_getElem (by rw [H.out.2]; exact hlt)⟩
      rw [all_step hr] at hS
      have HS := hid hS
      obtain ⟨rfl, h0, h1, h2, h3⟩ := vw_at (H.out.1.below hB) hr
      have hbb : b < wr.heap.size := World.block_lt_of_cell? _ _ h0
      clear hS hB hr
      rcases hR : rightB r with _ | _
      · have HH := hid hR
        clear hR
        go_wp2_with (go_at_call 26; with_reducible refine Calls.mono (Rc.right_any r.x0 r.y0 r.x1 r.y1 _) ?_; rintro e w1 ⟨rfl, hb⟩; have HB1 := hid (HB.out.trans (hb.mono HB.out.size)); clear hb; rw [show rightB ⟨r.x0, r.y0, r.x1, r.y1⟩ = false from HH.out])
        go_ret
        exact ⟨ret_bool (by unfold refRightB; rw [← HS.out, HH.out]; rfl), HB1.out⟩
      · rcases hE : empB r with _ | _
        · have HH := hid (And.intro hR hE)
          clear hR hE
          go_wp2_with (first
            | (go_at_call 26; with_reducible refine Calls.mono (Rc.right_any r.x0 r.y0 r.x1 r.y1 _) ?_; rintro e w1 ⟨rfl, hb⟩; have HB1 := hid (HB.out.trans (hb.mono HB.out.size)); have k0 := (hb.cell (p := ⟨b, off + k * 4, none⟩) hbb).trans h0; have k1 := (hb.cell (p := ⟨b, off + k * 4 + 1, none⟩) hbb).trans h1; have k2 := (hb.cell (p := ⟨b, off + k * 4 + 2, none⟩) hbb).trans h2; have k3 := (hb.cell (p := ⟨b, off + k * 4 + 3, none⟩) hbb).trans h3; clear hb; rw [show rightB ⟨r.x0, r.y0, r.x1, r.y1⟩ = true from HH.out.1])
            | (go_at_call 17; with_reducible refine Calls.mono (Rc.refEmpty_any r.x0 r.y0 r.x1 r.y1 _) ?_; rintro e w2 ⟨rfl, hb⟩; have HB2 := hid (HB1.out.trans (hb.mono HB1.out.size)); clear hb; rw [show empB ⟨r.x0, r.y0, r.x1, r.y1⟩ = false from HH.out.2]))
          go_roundg (n - (k + 1))
          case measure => omega
          case rel => exact ⟨k + 1, hlt, rfl, by simp, HB2.out, by rw [← HS.out, HH.out.1, HH.out.2]; rfl⟩
        · have HH := hid (And.intro hR hE)
          clear hR hE
          go_wp2_with (first
            | (go_at_call 26; with_reducible refine Calls.mono (Rc.right_any r.x0 r.y0 r.x1 r.y1 _) ?_; rintro e w1 ⟨rfl, hb⟩; have HB1 := hid (HB.out.trans (hb.mono HB.out.size)); have k0 := (hb.cell (p := ⟨b, off + k * 4, none⟩) hbb).trans h0; have k1 := (hb.cell (p := ⟨b, off + k * 4 + 1, none⟩) hbb).trans h1; have k2 := (hb.cell (p := ⟨b, off + k * 4 + 2, none⟩) hbb).trans h2; have k3 := (hb.cell (p := ⟨b, off + k * 4 + 3, none⟩) hbb).trans h3; clear hb; rw [show rightB ⟨r.x0, r.y0, r.x1, r.y1⟩ = true from HH.out.1])
            | (go_at_call 17; with_reducible refine Calls.mono (Rc.refEmpty_any r.x0 r.y0 r.x1 r.y1 _) ?_; rintro e w2 ⟨rfl, hb⟩; have HB2 := hid (HB1.out.trans (hb.mono HB1.out.size)); clear hb; rw [show empB ⟨r.x0, r.y0, r.x1, r.y1⟩ = true from HH.out.2]))
          go_ret
          exact ⟨ret_bool (by unfold refRightB; rw [← HS.out, HH.out.1, HH.out.2]; rfl), HB2.out⟩
    · obtain rfl : k = n := by omega
      have HA : Hid (l.all (fun r => rightB r && !empB r) = true) := by rw [List.drop_eq_nil_of_le (by rw [H.out.2]; exact Nat.le_refl _)] at hS; exact hS.symm
      clear hS hB
      go_wp2_with (first
        | (go_at_call 27; with_reducible refine Calls.mono (refOf_any wr ao _ c b off l (H.out.1.below HB.out) hN) ?_; rintro e w1 ⟨hr, hb⟩; have HB1 := hid (HB.out.trans (hb.mono HB.out.size)); obtain ⟨ao3, n3, c3, b3, off3, rfl, hv3⟩ := retO hr; have HV := hid hv3; clear hr hb hv3)
        | (go_at_call 10; with_reducible refine Calls.mono (same_any ao _ c b off l ao3 n3 c3 b3 off3 _ w1 (H.out.1.below HB1.out) HV.out.v) ?_; rintro e w2 ⟨rfl, hb⟩; have HB2 := hid (HB1.out.trans (hb.mono HB1.out.size)); clear hb))
      go_ret
      exact ⟨ret_bool (by unfold refRightB; rw [HA.out, Bool.true_and]), HB2.out⟩

theorem vAl {sz : Nat} {P : World} {ao : Option Addr} {n c b off : Nat} {cs : List Value} (h : Vz sz P ao n c b off cs) (o : Obj) : Vz sz (P.alloc o) ao n c b off cs := h.below ((Below.refl _ _).alloc (Nat.le_refl _) _)
theorem new3 (w : World) (a0 a1 a2 a3 a4 a5 a6 a7 a8 a9 a10 a11 : Int) : Vw (w.alloc (.cells #[.int .i64 a0, .int .i64 a1, .int .i64 a2, .int .i64 a3, .int .i64 a4, .int .i64 a5, .int .i64 a6, .int .i64 a7, .int .i64 a8, .int .i64 a9, .int .i64 a10, .int .i64 a11] 34)) (some ⟨w.heap.size, 0, none⟩) 3 3 w.heap.size 0 [⟨a0, a1, a2, a3⟩, ⟨a4, a5, a6, a7⟩, ⟨a8, a9, a10, a11⟩] := (ow_news (B := 0) (Nat.zero_le _) [⟨a0, a1, a2, a3⟩, ⟨a4, a5, a6, a7⟩, ⟨a8, a9, a10, a11⟩] (by simp) 34).v
theorem new4 (w : World) (a0 a1 a2 a3 a4 a5 a6 a7 a8 a9 a10 a11 a12 a13 a14 a15 : Int) : Vw (w.alloc (.cells #[.int .i64 a0, .int .i64 a1, .int .i64 a2, .int .i64 a3, .int .i64 a4, .int .i64 a5, .int .i64 a6, .int .i64 a7, .int .i64 a8, .int .i64 a9, .int .i64 a10, .int .i64 a11, .int .i64 a12, .int .i64 a13, .int .i64 a14, .int .i64 a15] 34)) (some ⟨w.heap.size, 0, none⟩) 4 4 w.heap.size 0 [⟨a0, a1, a2, a3⟩, ⟨a4, a5, a6, a7⟩, ⟨a8, a9, a10, a11⟩, ⟨a12, a13, a14, a15⟩] := (ow_news (B := 0) (Nat.zero_le _) [⟨a0, a1, a2, a3⟩, ⟨a4, a5, a6, a7⟩, ⟨a8, a9, a10, a11⟩, ⟨a12, a13, a14, a15⟩] (by simp) 34).v
def LA : List R := [⟨0, 0, 2, 1⟩, ⟨0, 1, 3, 2⟩, ⟨1, 2, 3, 3⟩]
def LB : List R := [⟨0, 0, 2, 1⟩]
def LC : List R := [⟨0, 0, 3, 1⟩, ⟨0, 1, 1, 2⟩, ⟨2, 1, 3, 2⟩, ⟨0, 2, 3, 3⟩]
theorem ofA : setsL orF [⟨0, 0, 2, 2⟩, ⟨1, 1, 3, 3⟩] [] = LA := by decide
theorem ofB : setsL orF [⟨0, 0, 1, 1⟩, ⟨1, 0, 2, 1⟩] [] = LB := by decide
theorem ofX : setsL orF [⟨0, 0, 3, 3⟩] [] = [⟨0, 0, 3, 3⟩] := by decide
theorem ofY : setsL orF [⟨1, 1, 2, 2⟩] [] = [⟨1, 1, 2, 2⟩] := by decide
theorem ofC : comb cutF [⟨0, 0, 3, 3⟩] [⟨1, 1, 2, 2⟩] = some LC := by decide
theorem rightA : rightG LA = true := by decide

end Go.Proofs.YteiihgoobhlkbaaDoor.Rg
