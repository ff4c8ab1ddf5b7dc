/- Whether nodes lead round, by the document: the contract. -/
import Derived.Test.YtleclkjinkbebaaDoorMarks
namespace Go.Proofs.YtleclkjinkbebaaDoor
open Num Go.RowKit
set_option linter.unusedVariables false
set_option linter.unusedSimpArgs false

/-- is all of it done, or no place? -/
def okX (n : Nat) (D : List Bool) (x : Int) : Bool := decide (x < 0) || decide ((n : Int) ≤ x) || bt D x.toNat
def okB (n : Nat) (D : List Bool) (l : List Int) : Bool := l.all (okX n D)
theorem okB_iff {G : List (List Int)} {n : Nat} {D : List Bool} {i : Nat} (hn : n = G.length) : okB n D (inL G i) = true ↔ ∀ k, k < G.length → hasB G i k = true → bt D k = true := by
  unfold okB okX
  rw [List.all_eq_true]
  constructor
  · intro h k hk hh
    have := h _ (has_iff.1 hh)
    simp at this
    rcases this with h1 | h1
    · omega
    · exact h1
  · intro h x hx
    by_cases h0 : x < 0
    · simp [h0]
    · by_cases h1 : (n : Int) ≤ x
      · simp [h1]
      · have e : ((x.toNat : Nat) : Int) = x := by omega
        have := h x.toNat (by omega) (has_iff.2 (by rw [e]; exact hx))
        simp [this]
theorem okX_in {n : Nat} (D : List Bool) {m : Nat} (h : m < n) : okX n D (m : Int) = bt D m := by
  unfold okX
  rw [decide_eq_false (by omega), decide_eq_false (by omega)]
  simp
theorem okB_step {n : Nat} {D : List Bool} {l : List Int} {j : Nat} {x : Int} (h : l[j]? = some x) : okB n D (l.take (j + 1)) = (okB n D (l.take j) && okX n D x) := by
  unfold okB
  rw [List.take_add_one, h, List.all_append]
  simp

set_option maxRecDepth 100000 in
set_option maxHeartbeats 2000000 in
theorem refRound_any (ao : Option Addr) (n c b off : Nat) (L : List Nv) (out : Int) (w : World) (h : Vn w ao n c b off L) (hf : Few n L) :
    Calls Tryd.prog 20 #[.agg #[.slice ao n c, .int .i64 out]] w fun e w' => e = .returned (.bool (roundB (insL L))) ∧ Below w.heap.size w w' := by
  have hl := vn_len h
  have hn := hf.n
  have hr := run_falses n (by omega)
  have H := hid (And.intro h (And.intro hf hl))
  have hm := mk_start w ao n c out hn
  have hG : Hid ((insL L).length = n) := by show (insL L).length = n; rw [insL_len, hl]
  clear h hl hf
  go_enter Tryd.func20, Tryd.ntmps20
  go_wp2
  generalize w.heap.size + 1 = g at *
  generalize ((w.alloc (.cells #[.slice ao n c, .int .i64 out] 35)).alloc (.cells (bools (List.replicate n false)).toArray 4)) = W at *
  have HM := hid hm
  have hd := hid (rd_start (insL L))
  rw [hG.out] at hd
  clear hm hr
  generalize List.replicate n false = D0 at *
  go_loopg [4] n (fun gk i wr => ∃ (r : Nat) (D : List Bool), r ≤ n ∧ gk = n - r ∧ i = .int .i64 r ∧ Mk w w.heap.size g ao n c out D wr ∧ Rd (insL L) r D)
  case atStart => exact ⟨0, D0, Nat.zero_le _, rfl, rfl, HM.out, hd.out⟩
  case round =>
    obtain ⟨r, D, hr, rfl, rfl, hm1, hd1⟩ := hrel
    have HM1 := hid hm1
    have HD1 := hid hd1
    obtain ⟨c0, c1⟩ := hm1.bx
    clear hm1 hd1 HM hd
    by_cases hlt : r < n
    · have hltz : (r : Int) < (n : Int) := by omega
      go_wp2
      go_loopg [5, 6, 7, 8] n (fun gk i x6 x7 x8 wr => ∃ (i' : Nat) (D : List Bool), i' ≤ n ∧ gk = n - i' ∧ i = .int .i64 i' ∧ Mk w w.heap.size g ao n c out D wr ∧ Re (insL L) r i' D)
      case atStart => exact ⟨0, D, Nat.zero_le _, rfl, rfl, HM1.out, re_start HD1.out⟩
      case round =>
        obtain ⟨i, D', hi, rfl, rfl, hm2, hd2⟩ := hrel
        have HM2 := hid hm2
        have HD2 := hid hd2
        obtain ⟨d0, d1⟩ := hm2.bx
        clear hm2 hd2 HM1 HD1 c0 c1
        by_cases hilt : i < n
        · have hiltz : (i : Int) < (n : Int) := by omega
          obtain ⟨v, hv⟩ : ∃ v, L[i]? = some v := ⟨_, List.getElem?_eq_getElem (by rw [H.out.2.2]; exact hilt)⟩
          obtain ⟨rfl, ⟨f0, f1, f2⟩, hvi, hvp⟩ := vn_at (H.out.1.below HM2.out.low) hv
          have HE := hid (And.intro (insL_at hv) (And.intro hvi (vi_len hvi)))
          have hni := H.out.2.1.i v (List.mem_of_getElem? hv)
          clear hv f0 f2 hvi hvp
          go_wp2
          go_loopg [6, 7, 8] v.ni (fun gk ok k x8 w3 => ∃ j : Nat, j ≤ v.ni ∧ gk = v.ni - j ∧ k = .int .i64 j ∧ ok = .bool (okB n D' (v.l.take j)) ∧ w3 = wr)
          case atStart => exact ⟨0, Nat.zero_le _, rfl, rfl, rfl, rfl⟩
          case round =>
            obtain ⟨j, hj, rfl, rfl, rfl, rfl⟩ := hrel
            by_cases hjlt : j < v.ni
            · have hjltz : (j : Int) < (v.ni : Int) := by omega
              obtain ⟨x, hx⟩ : ∃ m, v.l[j]? = some m := ⟨_, List.getElem?_eq_getElem (by rw [HE.out.2.2]; exact hjlt)⟩
              obtain ⟨ha, g0⟩ := vi_at HE.out.2.1 hx
              have HS := hid (okB_step (n := n) (D := D') hx)
              clear hx
              rcases hok : okB n D' (v.l.take j) with _ | _
              · have HO := hid hok
                clear hok
                go_wp2
                go_roundg (v.ni - (j + 1))
                case measure => omega
                case rel => exact ⟨j + 1, hjlt, rfl, by simp, by rw [HS.out, HO.out]; rfl, rfl⟩
              · have HO := hid hok
                clear hok
                by_cases h0 : x < 0
                · go_wp2
                  go_roundg (v.ni - (j + 1))
                  case measure => omega
                  case rel => exact ⟨j + 1, hjlt, rfl, by simp, by rw [HS.out, HO.out]; simp [okX, h0], rfl⟩
                · by_cases h1 : (n : Int) ≤ x
                  · go_wp2
                    go_roundg (v.ni - (j + 1))
                    case measure => omega
                    case rel => exact ⟨j + 1, hjlt, rfl, by simp, by rw [HS.out, HO.out]; simp [okX, h1], rfl⟩
                  · obtain ⟨m, rfl⟩ : ∃ m : Nat, x = (m : Int) := ⟨x.toNat, by omega⟩
                    have hmn : m < n := by omega
                    have hmz : (m : Int) < (n : Int) := by omega
                    have e0 := ot_bt0 HM2.out.d hmn
                    go_wp2
                    go_roundg (v.ni - (j + 1))
                    case measure => omega
                    case rel => exact ⟨j + 1, hjlt, rfl, by simp, by rw [HS.out, HO.out, okX_in D' hmn]; simp, rfl⟩
            · obtain rfl : j = v.ni := by omega
              have e0 := ot_bt0 HM2.out.d hilt
              have e1 := ot_fz0 HM2.out.d hilt
              have HV : Hid (okB n D' (v.l.take v.ni) = okB n D' (inL (insL L) i)) := by
                show okB n D' (v.l.take v.ni) = okB n D' (inL (insL L) i)
                rw [HE.out.1, List.take_of_length_le (by rw [HE.out.2.2]; exact Nat.le_refl _)]
              generalize hok : okB n D' (v.l.take v.ni) = ok at *
              rcases hb : bt D' i with _ | _
              · have HBt := hid hb
                go_wp2
                go_roundg (n - (i + 1))
                case measure => omega
                case rel => exact ⟨i + 1, D'.set i ok, hilt, rfl, by simp, mk_set HM2.out hilt ok, re_step HD2.out (by rw [hG.out]; exact hilt) (by rw [HBt.out, HV.out, okB_iff hG.out.symm]; simp)⟩
              · have HBt := hid hb
                go_wp2
                go_roundg (n - (i + 1))
                case measure => omega
                case rel => exact ⟨i + 1, D'.set i true, hilt, rfl, by simp, mk_set HM2.out hilt true, re_step HD2.out (by rw [hG.out]; exact hilt) (by rw [HBt.out]; simp)⟩
        · obtain rfl : i = n := by omega
          go_wp2
          go_roundg (i - (r + 1))
          case measure => omega
          case rel => exact ⟨r + 1, D', hlt, rfl, by simp, HM2.out, re_end (by rw [hG.out]; exact HD2.out)⟩
    · obtain rfl : r = n := by omega
      go_wp2
      go_loopg [9] r (fun gk i w3 => ∃ i' : Nat, i' ≤ r ∧ gk = r - i' ∧ i = .int .i64 i' ∧ w3 = wr ∧ ∀ k, k < i' → bt D k = true)
      case atStart => exact ⟨0, Nat.zero_le _, rfl, rfl, rfl, fun k hk => by omega⟩
      case round =>
        obtain ⟨i, hi, rfl, rfl, rfl, ha⟩ := hrel
        have HA := hid ha
        clear ha
        by_cases hilt : i < r
        · have hiltz : (i : Int) < (r : Int) := by omega
          have e0 := ot_bt0 HM1.out.d hilt
          rcases hb : bt D i with _ | _
          · have HBt := hid hb
            have HR := hid (rd_no (by rw [hG.out]; exact HD1.out) (by rw [hG.out]; exact hilt) hb)
            clear hb
            rw [HBt.out] at e0
            go_wp2
            go_ret
            exact ⟨ret_bool HR.out.symm, HM1.out.low⟩
          · have HBt := hid hb
            clear hb
            rw [HBt.out] at e0
            go_wp2
            go_roundg (r - (i + 1))
            case measure => omega
            case rel =>
              refine ⟨i + 1, hilt, rfl, by simp, rfl, fun k hk => ?_⟩
              by_cases e : k = i
              · subst e; exact HBt.out
              · exact HA.out k (by omega)
        · obtain rfl : i = r := by omega
          have HR := hid (rd_yes (by rw [hG.out]; exact HD1.out) (by rw [hG.out]; exact HA.out))
          go_wp2
          go_ret
          exact ⟨ret_bool HR.out.symm, HM1.out.low⟩
end Go.Proofs.YtleclkjinkbebaaDoor
