/- A strip's rectangles behind the band above: the contract. -/
import Derived.Test.YtlakklpnajgjiaaStrip
namespace Go.Proofs.Ytlakklpnajgjiaa
open Num Go.RowKit
set_option linter.unusedVariables false

/-- a slice and a number are answered -/
def RetT (B : Nat) (w : World) (e : Ending) (l : List R) (k : Nat) : Prop := ∃ ao n c b off, e = .returned (.tuple #[.slice ao n c, .int .i64 k]) ∧ Ow B w ao n c b off l

theorem oz_set {sz B : Nat} {w : World} {ao : Option Addr} {n c b off : Nat} {cs : List Value} (h : Oz sz B w ao n c b off cs) {p : Nat} (hp : p < cs.length) (v : Value) : Oz sz B (w.setCell ⟨b, off + p, none⟩ v) ao n c b off (cs.set p v) := by
  obtain ⟨⟨h1, h2, h3, h4, h5⟩, h6, h7⟩ := h
  refine ⟨⟨by simpa using h1, h2, h3, h4, fun j u hu => ?_⟩, fun hc => ⟨(h6 hc).1, by have := (h6 hc).2; simpa [World.setCell] using this⟩, fun j hj => ?_⟩
  · rw [List.getElem?_set] at hu
    split at hu
    · rename_i e
      subst e
      first | rw [if_pos hp] at hu | skip
      rw [World.cell?_setCell_same _ _ _ (h5 p _ (List.getElem?_eq_getElem hp)), hu]
    · rename_i e
      rw [World.cell?_setCell_other _ _ _ _ (by first | (simp; omega) | (simp; done))]
      exact h5 j u hu
  · rw [World.frozen?_setCell]
    refine ⟨?_, (h7 j hj).2⟩
    by_cases e : j = p
    · subst e
      rw [World.cell?_setCell_same _ _ _ (h5 j _ (List.getElem?_eq_getElem hp))]; rfl
    · rw [World.cell?_setCell_other _ _ _ _ (by first | (simp; omega) | (simp; done))]
      exact (h7 j hj).1

theorem flat_set3 : ∀ {l : List R} {j : Nat} {r : R} (y : Int), l[j]? = some r → flat (l.set j ⟨r.x0, r.y0, r.x1, y⟩) = (flat l).set (j * 4 + 3) (.int .i64 y)
  | [], j, r, y, h => by simp at h
  | a :: l, 0, r, y, h => by
    simp at h
    subst h
    simp [flat_cons]
  | a :: l, j + 1, r, y, h => by
    have h' : l[j]? = some r := by simpa using h
    rw [List.set_cons_succ, flat_cons, flat_cons, flat_set3 y h', show (j + 1) * 4 + 3 = (j * 4 + 3) + 1 + 1 + 1 + 1 by omega]
    simp
theorem flat_set2 : ∀ {l : List R} {j : Nat} {r : R} (x : Int), l[j]? = some r → flat (l.set j ⟨r.x0, r.y0, x, r.y1⟩) = (flat l).set (j * 4 + 2) (.int .i64 x)
  | [], j, r, y, h => by simp at h
  | a :: l, 0, r, y, h => by
    simp at h
    subst h
    simp [flat_cons]
  | a :: l, j + 1, r, y, h => by
    have h' : l[j]? = some r := by simpa using h
    rw [List.set_cons_succ, flat_cons, flat_cons, flat_set2 y h', show (j + 1) * 4 + 2 = (j * 4 + 2) + 1 + 1 + 1 + 1 by omega]
    simp
theorem ow_set3 {B : Nat} {w : World} {ao : Option Addr} {n c b off : Nat} {l : List R} (h : Ow B w ao n c b off l) {j : Nat} {r : R} (hj : l[j]? = some r) (y : Int) : Ow B (w.setCell ⟨b, off + j * 4 + 3, none⟩ (.int .i64 y)) ao n c b off (l.set j ⟨r.x0, r.y0, r.x1, y⟩) := by
  have hlt : j < l.length := (List.getElem?_eq_some_iff.1 hj).1
  have := oz_set h (p := j * 4 + 3) (by rw [flat_len]; omega) (.int .i64 y)
  rw [← flat_set3 y hj, ← Nat.add_assoc] at this
  exact this
theorem ow_set2 {B : Nat} {w : World} {ao : Option Addr} {n c b off : Nat} {l : List R} (h : Ow B w ao n c b off l) {j : Nat} {r : R} (hj : l[j]? = some r) (x : Int) : Ow B (w.setCell ⟨b, off + j * 4 + 2, none⟩ (.int .i64 x)) ao n c b off (l.set j ⟨r.x0, r.y0, x, r.y1⟩) := by
  have hlt : j < l.length := (List.getElem?_eq_some_iff.1 hj).1
  have := oz_set h (p := j * 4 + 2) (by rw [flat_len]; omega) (.int .i64 x)
  rw [← flat_set2 x hj, ← Nat.add_assoc] at this
  exact this
theorem ow_at {B : Nat} {w : World} {ao : Option Addr} {n c b off : Nat} {l : List R} (h : Ow B w ao n c b off l) {j : Nat} {r : R} (hj : l[j]? = some r) (o : Nat) (ho : o < 4) : w.frozen? ⟨b, off + j * 4 + o, none⟩ = false ∧ B ≤ b := by
  have hlt : j < l.length := (List.getElem?_eq_some_iff.1 hj).1
  have hl := vw_len h.v
  have hle := h.v.le
  refine ⟨?_, (h.new (by omega)).1⟩
  have := (h.room (j * 4 + o) (by omega)).2
  rwa [← Nat.add_assoc] at this
theorem ow_take {B : Nat} {w : World} {ao : Option Addr} {n c b off : Nat} {l : List R} (h : Ow B w ao n c b off l) {k : Nat} (hk : k ≤ n) : Ow B w ao k c b off (l.take k) := ⟨vw_take h.v hk, h.new, h.room⟩
theorem oz_drewN {sz B : Nat} {w : World} {ao : Option Addr} {n c b off : Nat} {cs : List Value} (h : Oz sz B w ao n c b off cs) (k : Nat) : Oz sz B (w.drewN k) ao n c b off cs := h.below (below_drewN (Below.refl _ _) k)

/-- the band above, so many of its rectangles made longer -/
def upd (l : List R) (last at' : Nat) : Nat → List R
  | 0 => l
  | i + 1 => match (upd l last at' i)[last + i]?, l[at' + i]? with
    | some r, some s => (upd l last at' i).set (last + i) ⟨r.x0, r.y0, r.x1, s.y1⟩
    | _, _ => upd l last at' i
theorem upd_len (l : List R) (last at' : Nat) : ∀ i, (upd l last at' i).length = l.length
  | 0 => rfl
  | i + 1 => by
    unfold upd
    split
    · rw [List.length_set]; exact upd_len l last at' i
    · exact upd_len l last at' i
theorem upd_far (l : List R) (last at' : Nat) : ∀ i j, (j < last ∨ last + i ≤ j) → (upd l last at' i)[j]? = l[j]?
  | 0, j, h => rfl
  | i + 1, j, h => by
    have ih := upd_far l last at' i j (by omega)
    unfold upd
    split
    · rw [List.getElem?_set_ne (by omega)]; exact ih
    · exact ih
theorem upd_in (l : List R) (last at' : Nat) : ∀ i j r s, j < i → l[last + j]? = some r → l[at' + j]? = some s → (upd l last at' i)[last + j]? = some ⟨r.x0, r.y0, r.x1, s.y1⟩
  | 0, j, r, s, h, _, _ => absurd h (Nat.not_lt_zero _)
  | i + 1, j, r, s, h, hr, hs => by
    unfold upd
    by_cases e : j = i
    · subst e
      have h1 : (upd l last at' j)[last + j]? = some r := by rw [upd_far l last at' j _ (.inr (Nat.le_refl _))]; exact hr
      rw [h1, hs]
      dsimp only
      rw [List.getElem?_set_self (by rw [upd_len]; exact (List.getElem?_eq_some_iff.1 hr).1)]
    · have ih := upd_in l last at' i j r s (by omega) hr hs
      split
      · rw [List.getElem?_set_ne (by omega)]; exact ih
      · exact ih
theorem upd_all (l : List R) {last at' : Nat} (h1 : last ≤ at') (h2 : at' ≤ l.length) (h3 : at' - last = l.length - at') :
    (upd l last at' (at' - last)).take at' = l.take last ++ setY1 ((l.take at').drop last) (l.drop at') := by
  apply List.ext_getElem?
  intro j
  have hz : (setY1 ((l.take at').drop last) (l.drop at')).length = at' - last := by unfold setY1; rw [List.length_zipWith, List.length_drop, List.length_take, List.length_drop]; omega
  by_cases hj : j < at'
  · rw [List.getElem?_take, if_pos hj]
    by_cases hl : j < last
    · rw [upd_far l last at' _ _ (.inl hl), List.getElem?_append_left (by rw [List.length_take]; omega), List.getElem?_take, if_pos hl]
    · obtain ⟨k, rfl⟩ : ∃ k, j = last + k := ⟨j - last, by omega⟩
      obtain ⟨r, hr⟩ : ∃ r, l[last + k]? = some r := ⟨_, List.getElem?_eq_getElem (by omega)⟩
      obtain ⟨s, hs⟩ : ∃ s, l[at' + k]? = some s := ⟨_, List.getElem?_eq_getElem (by omega)⟩
      rw [upd_in l last at' _ k r s (by omega) hr hs, List.getElem?_append_right (by rw [List.length_take]; omega), List.length_take, show last + k - min last l.length = k by omega]
      unfold setY1
      rw [List.getElem?_zipWith, List.getElem?_drop, List.getElem?_drop, List.getElem?_take, if_pos (by omega), hr, hs]
  · rw [List.getElem?_eq_none (by rw [List.length_take]; omega), List.getElem?_eq_none (by rw [List.length_append, hz, List.length_take]; omega)]

theorem seam_len_eq {a b : List R} (h : seamB a b = true) : a.length = b.length := by
  by_cases e : a.length = b.length
  · exact e
  · rw [seam_len e] at h; cases h

set_option maxRecDepth 100000 in
set_option maxHeartbeats 2000000 in
theorem settle_any (W : World) (ao : Option Addr) (n c b off : Nat) (l : List R) (last at' : Nat) (w : World) (hW : Below W.heap.size W w) (h : Ow W.heap.size w ao n c b off l) (h1 : last ≤ at') (h2 : at' ≤ n) :
    Calls Try.prog 61 #[.slice ao n c, .int .i64 last, .int .i64 at'] w fun e w' => RetT W.heap.size w' e (settleL l last at').1 (settleL l last at').2 ∧ Below W.heap.size W w' := by
  have hl := vw_len h.v
  have hn := vw_small h.v
  have hle := h.v.le
  have z1 : (last : Int) ≤ (at' : Int) := by omega
  have z2 : (at' : Int) ≤ (n : Int) := by omega
  have z3 : (at' : Int) ≤ (c : Int) := by omega
  by_cases he : at' = n
  · have E : settleL l last at' = (l, last) := by unfold settleL; rw [if_pos (List.drop_eq_nil_of_le (by omega))]
    rw [E]
    subst he
    have H : Hid (Ow W.heap.size w ao at' c b off l ∧ Below W.heap.size W w) := ⟨h, hW⟩
    clear h hl hW E
    by_cases hcn : c = at'
    · subst hcn
      by_cases hln : last = c
      · subst hln
        go_enter Try.func61, Try.ntmps61
        go_wp2
        go_quiet (fail)
        go_wp2
        all_goals
          go_ret2
          exact ⟨⟨_, _, _, _, _, rfl, oz_drewN H.out.1 _⟩, below_drewN H.out.2 _⟩
      · have hne : ¬ c = last := fun e => hln e.symm
        go_enter Try.func61, Try.ntmps61
        go_wp2
        go_quiet (fail)
        go_wp2
        all_goals
          go_ret2
          exact ⟨⟨_, _, _, _, _, rfl, oz_drewN H.out.1 _⟩, below_drewN H.out.2 _⟩
    · have hne : ¬ c = last := by omega
      go_enter Try.func61, Try.ntmps61
      go_wp2
      go_quiet (fail)
      go_wp2
      all_goals
        go_ret2
        exact ⟨⟨_, _, _, _, _, rfl, oz_drewN H.out.1 _⟩, below_drewN H.out.2 _⟩
  · have hc1 : ¬ c = last := by omega
    have hc2 : ¬ c = at' := by omega
    obtain rfl := h.v.addr (by omega)
    have H : Hid (Ow W.heap.size w (some ⟨b, off, none⟩) n c b off l ∧ l.length = n ∧ Below W.heap.size W w) := ⟨h, hl, hW⟩
    have hA : Vw w (some ⟨b, off + last * 4, none⟩) (at' - last) (c - last) b (off + last * 4) ((l.take at').drop last) := vw_dropS (vw_take h.v h2) h1
    have hD : Vw w (some ⟨b, off + at' * 4, none⟩) (n - at') (c - at') b (off + at' * 4) (l.drop at') := vw_dropS h.v h2
    have HV : Hid (Vw w (some ⟨b, off + last * 4, none⟩) (at' - last) (c - last) b (off + last * 4) ((l.take at').drop last) ∧ Vw w (some ⟨b, off + at' * 4, none⟩) (n - at') (c - at') b (off + at' * 4) (l.drop at')) := ⟨hA, hD⟩
    have hne : ¬ l.drop at' = [] := fun e => by have := congrArg List.length e; simp at this; omega
    have d0 : ¬ (((n - at' : Nat) : Int) = 0) := by omega
    have d0' : ¬ (n - at' = 0) := by omega
    clear h hl hW hA hD
    have HL : Hid (l.length = n) := H.out.2.1
    rcases hsm : seamB ((l.take at').drop last) (l.drop at') with _ | _
    · have E : settleL l last at' = (l, at') := by unfold settleL; rw [if_neg hne, if_neg (by simp [hsm])]
      rw [E]
      have HE : Hid (seamB ((l.take at').drop last) (l.drop at') = false) := hsm
      clear hne E hsm
      go_enter Try.func61, Try.ntmps61
      go_wp2
      go_quiet (fail)
      go_wp2_with (go_at_call 57; with_reducible refine Calls.mono (seamless_any _ _ _ _ _ _ _ _ _ _ _ _ _ (HV.out.1.below (below_drewN (Below.refl _ _) _)) (HV.out.2.below (below_drewN (Below.refl _ _) _))) ?_; rintro e w1 ⟨rfl, hb⟩; rw [HE.out])
      all_goals
        go_ret2
        exact ⟨⟨_, _, _, _, _, rfl, (oz_drewN H.out.1 _).below hb⟩, (below_drewN H.out.2.2 _).trans (hb.mono (below_drewN H.out.2.2 _).size)⟩
    · have E : settleL l last at' = ((upd l last at' (at' - last)).take at', last) := by
        unfold settleL
        rw [if_neg hne, if_pos hsm, upd_all l h1 (by rw [HL.out]; exact h2) (by have h8 := HL.out; have := seam_len_eq hsm; rw [List.length_drop, List.length_take, List.length_drop] at this; omega)]
      rw [E]
      have HE : Hid (seamB ((l.take at').drop last) (l.drop at') = true ∧ at' - last = n - at') := ⟨hsm, by have := seam_len_eq hsm; rw [List.length_drop, List.length_take, List.length_drop, HL.out] at this; omega⟩
      clear hne E hsm
      go_enter Try.func61, Try.ntmps61
      go_wp2
      go_quiet (fail)
      go_wp2_with (go_at_call 57; with_reducible refine Calls.mono (seamless_any _ _ _ _ _ _ _ _ _ _ _ _ _ (HV.out.1.below (below_drewN (Below.refl _ _) _)) (HV.out.2.below (below_drewN (Below.refl _ _) _))) ?_; rintro e w1 ⟨rfl, hb⟩; rw [HE.out.1]; have H1 : Hid (Ow W.heap.size w1 (some ⟨b, off, none⟩) n c b off l ∧ Below W.heap.size W w1) := hid ⟨(oz_drewN H.out.1 _).below hb, (below_drewN H.out.2.2 _).trans (hb.mono (below_drewN H.out.2.2 _).size)⟩; clear hb)
      go_loopg [31] (at' - last) (fun g vi wr => ∃ i : Nat, vi = .int .i64 i ∧ i ≤ at' - last ∧ g = at' - last - i ∧ Ow W.heap.size wr (some ⟨b, off, none⟩) n c b off (upd l last at' i) ∧ Below W.heap.size W wr)
      case atStart => exact ⟨0, rfl, Nat.zero_le _, rfl, H1.out.1, H1.out.2⟩
      case round =>
        obtain ⟨i, rfl, hi, rfl, hO, hB⟩ := hrel
        clear H1
        by_cases hi2 : i < at' - last
        · have heq := HE.out.2
          have hlen := HL.out
          obtain ⟨r, hr⟩ : ∃ r, (upd l last at' i)[last + i]? = some r := ⟨_, List.getElem?_eq_getElem (by rw [upd_len]; omega)⟩
          obtain ⟨s, hs⟩ : ∃ s, l[at' + i]? = some s := ⟨_, List.getElem?_eq_getElem (by omega)⟩
          have hs' : (upd l last at' i)[at' + i]? = some s := by rw [upd_far l last at' i _ (.inr (by omega))]; exact hs
          obtain ⟨-, -, -, -, g3⟩ := vw_at hO.v hr
          obtain ⟨-, -, -, -, k3⟩ := vw_at hO.v hs'
          have fz := (ow_at hO hr 3 (by omega)).1
          have hbB := (ow_at hO hr 3 (by omega)).2
          rw [show off + (last + i) * 4 + 3 = off + last * 4 + i * 4 + 3 by omega] at g3 fz
          rw [show off + (at' + i) * 4 + 3 = off + at' * 4 + i * 4 + 3 by omega] at k3
          have HS := hid (show Ow W.heap.size (wr.setCell ⟨b, off + last * 4 + i * 4 + 3, none⟩ (.int .i64 s.y1)) (some ⟨b, off, none⟩) n c b off (upd l last at' (i + 1)) by
            have := ow_set3 hO hr s.y1
            rw [show off + (last + i) * 4 + 3 = off + last * 4 + i * 4 + 3 by omega] at this
            show Ow _ _ _ _ _ _ _ (match (upd l last at' i)[last + i]?, l[at' + i]? with
              | some r, some s => (upd l last at' i).set (last + i) ⟨r.x0, r.y0, r.x1, s.y1⟩
              | _, _ => upd l last at' i)
            rw [hr, hs]
            exact this)
          have HB := hid (hB.setCell (p := ⟨b, off + last * 4 + i * 4 + 3, none⟩) hbB (.int .i64 s.y1))
          have e1 : (i : Int) < ((at' - last : Nat) : Int) := by omega
          have e2 : (i : Int) < ((n - at' : Nat) : Int) := by omega
          clear hO hB hr hs hs' heq hlen hbB
          go_wp2
          go_roundg (at' - last - (i + 1))
          case measure => omega
          case rel => exact ⟨i + 1, by simp, by omega, rfl, HS.out, HB.out⟩
        · obtain rfl : i = at' - last := by omega
          have HO := hid hO
          have HB := hid hB
          clear hO hB
          go_wp2
          go_ret2
          exact ⟨⟨_, _, _, _, _, rfl, ow_take HO.out h2⟩, HB.out⟩
end Go.Proofs.Ytlakklpnajgjiaa
