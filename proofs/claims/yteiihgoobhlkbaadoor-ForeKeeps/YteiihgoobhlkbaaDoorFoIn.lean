/- What is known of a node's inputs: the contract. -/
import Derived.Test.YteiihgoobhlkbaaDoorFoPick
import Derived.Laws.MakeOwn
namespace Go.Proofs.YteiihgoobhlkbaaDoor
open Num Go.RowKit
set_option linter.unusedVariables false
set_option linter.unusedSimpArgs false

theorem infoRg : (Tryd.prog.info? 26).map (fun i => (i.zero, i.size, i.bytes)) = some (some (.slice none 0 0), 1, 24) := by kernel_rfl
set_option maxRecDepth 100000 in
theorem run_nilRs (n : Nat) (hn : n ≤ 1000000) (w : World) : (Instr.makeSlice 55 (.int .i64 (n : Int)) (.int .i64 (n : Int))).run Tryd.prog w = .ok (.slice (some ⟨w.heap.size, 0, none⟩) n n) (w.alloc (.cells (slRs (List.replicate n nilR)).toArray 26)) := by
  obtain ⟨i, hi, hz0, hz1, hz2⟩ := info_parts infoRg
  have := run_make (P := Tryd.prog) w 55 26 i _ Tryd.underlying55 hi hz0 .i64 .i64 n n (by omega) (Int.le_refl _) (by rw [hz2]; omega) (by omega)
  rw [hz1] at this
  simp only [Int.toNat_natCast] at this
  rw [this]
  congr 3
  unfold madeCells
  apply Array.ext
  · simp [slRs]
  · intro j h1 h2
    rw [Array.getElem_map]
    simp [slRs, slR, nilR, Value.cells]
    rw [Nat.mod_one]; rfl

/-- so many are told, the others not yet -/
def partV (V : List Rv) (k : Nat) : List Rv := V.take k ++ List.replicate (V.length - k) nilR
theorem partV_zero (V : List Rv) : partV V 0 = List.replicate V.length nilR := by unfold partV; simp
theorem partV_all (V : List Rv) : partV V V.length = V := by unfold partV; simp
theorem partV_len (V : List Rv) {k : Nat} (hk : k ≤ V.length) : (partV V k).length = V.length := by unfold partV; simp; omega
theorem partV_set {V : List Rv} {k : Nat} {v : Rv} (h : V[k]? = some v) : (partV V k).set k v = partV V (k + 1) := by
  obtain ⟨hk, rfl⟩ := List.getElem?_eq_some_iff.1 h
  unfold partV
  have e : List.replicate (V.length - k) nilR = nilR :: List.replicate (V.length - (k + 1)) nilR := by
    rw [show V.length - k = (V.length - (k + 1)) + 1 by omega, List.replicate_succ]
  rw [e, List.set_append_right _ _ (by simp; omega), List.take_succ_eq_append_getElem hk]
  have : k - (V.take k).length = 0 := by simp; omega
  rw [this]
  simp only [List.set_cons_zero, List.append_assoc, List.cons_append, List.nil_append]
theorem oz_setR {B : Nat} {w : World} {ao : Option Addr} {n c b : Nat} {V : List Rv} (h : Oz 1 B w ao n c b 0 (slRs V)) {i : Nat} (hi : i < n) (v : Rv) : Oz 1 B (w.setCell ⟨b, i, none⟩ (.slice v.ao v.n v.c)) ao n c b 0 (slRs (V.set i v)) := by
  have hl := h.v.len
  rw [slRs_len] at hl
  have := oz_set h (p := i) (by rw [slRs_len]; omega) (.slice v.ao v.n v.c)
  rw [Nat.zero_add, ← slRs_set] at this
  exact this
theorem oz_someR {B : Nat} {w : World} {ao : Option Addr} {n c b : Nat} {V : List Rv} (h : Oz 1 B w ao n c b 0 (slRs V)) {i : Nat} (hi : i < n) : ∃ u, w.cell? ⟨b, i, none⟩ = some u ∧ w.frozen? ⟨b, i, none⟩ = false := by
  have hl := h.v.len
  rw [slRs_len] at hl
  have h1 := h.v.lies i _ (List.getElem?_eq_getElem (by rw [slRs_len]; omega))
  rw [Nat.zero_add] at h1
  have h2 := oz_fz h (i := i) (by omega)
  rw [Nat.zero_add] at h2
  exact ⟨_, h1, h2⟩

/-- a list of regions is answered -/
def RetF (w : World) (e : Ending) (V : List Rv) : Prop := ∃ ao n c b off, e = .returned (.slice ao n c) ∧ Vf w ao n c b off V
theorem retF {w : World} {e : Ending} {V : List Rv} (h : RetF w e V) : ∃ ao n c b off, e = .returned (.slice ao n c) ∧ Vf w ao n c b off V := h
set_option maxRecDepth 100000 in
set_option maxHeartbeats 1000000 in
theorem inputs_any (op : Int) (ai : Option Addr) (ni ci bi oi : Nat) (l : List Int) (ap : Option Addr) (np cp : Nat) (s : Rv) (ko : Option Addr) (kn kc kb koff : Nat) (K : List Rv) (w : World)
    (hi : Vi w ai ni ci bi oi l) (hni : ni ≤ 1000) (hs : Rw w s) (hK : Vf w ko kn kc kb koff K) :
    Calls Tryd.prog 31 #[.agg #[.int .i64 op, .slice ai ni ci, .slice ap np cp], .slice s.ao s.n s.c, .slice ko kn kc] w fun e w' => RetF w' e (l.map (inV s K)) ∧ Below w.heap.size w w' := by
  have hl := vi_len hi
  have hb0 : Below w.heap.size w (w.alloc (.cells #[.int .i64 op, .slice ai ni ci, .slice ap np cp] 39)) := (Below.refl _ _).alloc (Nat.le_refl _) _
  have hz0 : (w.alloc (.cells #[.int .i64 op, .slice ai ni ci, .slice ap np cp] 39)).heap.size = w.heap.size + 1 := by simp
  obtain ⟨V, hV⟩ : ∃ V, V = l.map (inV s K) := ⟨_, rfl⟩
  have hVl : V.length = ni := by rw [hV, List.length_map, hl]
  have hm := run_nilRs ni (by omega)
  have h0 : Oz 1 w.heap.size ((w.alloc (.cells #[.int .i64 op, .slice ai ni ci, .slice ap np cp] 39)).alloc (.cells (slRs (List.replicate ni nilR)).toArray 26)) (some ⟨w.heap.size + 1, 0, none⟩) ni ni (w.heap.size + 1) 0 (slRs (partV V 0)) := by
    have := oz_news (sz := 1) (lo := w.heap.size) (w := w.alloc (.cells #[.int .i64 op, .slice ai ni ci, .slice ap np cp] 39)) hb0.size (slRs (List.replicate ni nilR)) ni (by rw [slRs_len]; simp) (by omega) 26
    rw [hz0] at this
    rw [partV_zero, hVl]
    exact this
  have hb1 : Below w.heap.size w ((w.alloc (.cells #[.int .i64 op, .slice ai ni ci, .slice ap np cp] 39)).alloc (.cells (slRs (List.replicate ni nilR)).toArray 26)) := hb0.alloc hb0.size _
  have H := hid (And.intro hi (And.intro hs (And.intro hK (And.intro hl (And.intro hV hVl)))))
  have H1 := hid (And.intro h0 hb1)
  rw [← hV]
  clear hi hl hs hK hV hVl h0 hb1 hb0
  go_enter Tryd.func31, Tryd.ntmps31
  go_wp2
  go_loopg [17] ni (fun g i wr => ∃ k : Nat, k ≤ ni ∧ g = ni - k ∧ i = .int .i64 k ∧ Below w.heap.size w wr ∧ Oz 1 w.heap.size wr (some ⟨w.heap.size + 1, 0, none⟩) ni ni (w.heap.size + 1) 0 (slRs (partV V k)))
  case atStart => exact ⟨0, Nat.zero_le _, rfl, rfl, H1.out.2, H1.out.1⟩
  case round =>
    obtain ⟨k, hk, rfl, rfl, hB, hO⟩ := hrel
    have HB := hid hB
    have HO := hid hO
    clear H1
    by_cases hlt : k < ni
    · have hlz : (k : Int) < (ni : Int) := by omega
      obtain ⟨x, hx⟩ : ∃ x, l[k]? = some x := ⟨_, List.getElem?_eq_getElem (by rw [H.out.2.2.2.1]; exact hlt)⟩
      have hv : V[k]? = some (inV s K x) := by rw [H.out.2.2.2.2.1, List.getElem?_map, hx]; rfl
      have HV := hid hv
      obtain ⟨rfl, e0⟩ := vi_at (H.out.1.below hB) hx
      obtain ⟨u, e1, e2⟩ := oz_someR hO hlt
      clear hB hO hx hv
      by_cases hx1 : x = -1
      · subst hx1
        have hq := hid (show inV s K (-1) = s by unfold inV; rw [if_pos rfl])
        go_wp2
        go_roundg (ni - (k + 1))
        case measure => omega
        case rel =>
          refine ⟨k + 1, hlt, rfl, by simp, HB.out.setCell (p := ⟨w.heap.size + 1, k, none⟩) (Nat.le_succ _) _, ?_⟩
          rw [← partV_set HV.out, hq.out]
          exact oz_setR HO.out hlt s
      · have hq : inV s K x = pickV K x := by unfold inV; rw [if_neg hx1]
        rw [hq] at HV
        clear hq
        go_wp2_with (go_at_call 32; with_reducible refine Calls.mono (pick_any x ko kn kc kb koff K _ (H.out.2.2.1.below HB.out)) ?_; rintro e w1 ⟨rfl, hw⟩; replace hw := hw.symm; subst hw)
        go_roundg (ni - (k + 1))
        case measure => omega
        case rel =>
          refine ⟨k + 1, hlt, rfl, by simp, HB.out.setCell (p := ⟨w.heap.size + 1, k, none⟩) (Nat.le_succ _) _, ?_⟩
          rw [← partV_set HV.out]
          exact oz_setR HO.out hlt _
    · obtain rfl : k = ni := by omega
      have e : partV V k = V := by have := partV_all V; rw [H.out.2.2.2.2.2] at this; exact this
      rw [e] at HO
      clear hB hO e
      go_wp2
      go_ret
      refine ⟨⟨_, _, _, _, _, rfl, HO.out.v, fun v hv => ?_⟩, HB.out⟩
      rw [H.out.2.2.2.2.1] at hv
      obtain ⟨x, -, rfl⟩ := List.mem_map.1 hv
      exact Rg.Vz.below (inV_rw H.out.2.1 H.out.2.2.1.v x) HB.out
end Go.Proofs.YteiihgoobhlkbaaDoor
