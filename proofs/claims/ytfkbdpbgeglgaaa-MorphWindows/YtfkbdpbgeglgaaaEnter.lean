/- A value enters a queue: it drives out those that are no more. -/
import Derived.Test.YtfkbdpbgeglgaaaQueue
import Derived.Deep.DeepCutAuto
namespace Go.Proofs.Ytfkbdpbgeglgaaa
open Num Go.RowKit
set_option linter.unusedVariables false
set_option linter.unusedSimpArgs false

/-- what stands while those that are no more are driven out -/
structure Dr (w : World) (k o a : Nat) (v : Int) (L A : List (Int × Int)) (wr : World) : Prop where
  q : Qu wr k o a A
  c : Ch k o 1026 w wr
  l : ∃ B, L = A ++ B ∧ ∀ x, x ∈ B → x.2 ≤ v
def Fr (k o : Nat) (p v : Int) (a : Act) : Prop := ∃ v6 v7 v8 v9 v10 v11 v12 v13 v14 v15 v16 v17 v18 v19 v20 v21 v22 v23 v24 v25 v26 v27 v28 v29 v30 v31 v32 v33 v34 v35 v36, a = { tmps := #[.pointer (some ⟨k, o, none⟩), .int .i64 p, .int .u8 v, undef, undef, undef, v6, v7, v8, v9, v10, v11, v12, v13, v14, v15, v16, v17, v18, v19, v20, v21, v22, v23, v24, v25, v26, v27, v28, v29, v30, v31, v32, v33, v34, v35, v36, undef, undef, undef, undef, undef, undef, undef, undef, undef, undef, undef, undef, undef, undef, undef, undef, undef, undef, undef, undef, undef, undef, undef, undef, undef, undef, undef], defers := [] }
theorem jump_normal {J S : Act → World → Prop} {Q : Exit → Act → World → Prop} {a : Act} {w : World} (h : Q .normal a w) : jumpTo J S Q .normal a w := h
theorem snoc_of {L : List (Int × Int)} (h : L ≠ []) : ∃ A x, L = A ++ [x] := ⟨L.dropLast, L.getLast h, (List.dropLast_concat_getLast h).symm⟩

set_option maxRecDepth 100000 in
set_option maxHeartbeats 4000000 in
theorem qenter_any (k o a : Nat) (p v : Int) (L : List (Int × Int)) (w : World) (h : Qu w k o a L) (ha : a ≤ 1000000) (hL : L.length < 512) :
    Calls Try.prog 57 #[.pointer (some ⟨k, o, none⟩), .int .i64 p, .int .u8 v] w fun e w' => e = .returned (.tuple #[]) ∧ (∃ A B, L = A ++ B ∧ (∀ x, x ∈ B → x.2 ≤ v) ∧ (A = [] ∨ ∃ A' x, A = A' ++ [x] ∧ v < x.2) ∧ Qu w' k o a (A ++ [(p, v)])) ∧ Ch k o 1026 w w' := by
  have hlt := h.lt
  have HD : Hid (Dr w k o a v L L w) := ⟨h, Ch.refl _ _ _ _, [], by simp, fun x hx => by simp at hx⟩
  clear h
  go_enter Try.func57, Try.ntmps57
  refine wp_scope_back1 (by rfl) (by rfl) (fun n ac wr => ∃ A, n = A.length ∧ Fr k o p v ac ∧ Dr w k o a v L A wr) (fun ac wr => ∃ A, (A = [] ∨ ∃ A' x, A = A' ++ [x] ∧ v < x.2) ∧ Fr k o p v ac ∧ Dr w k o a v L A wr) ?_ ?_ ?_
  · exact ⟨_, L, rfl, ⟨_, _, _, _, _, _, _, _, _, _, _, _, _, _, _, _, _, _, _, _, _, _, _, _, _, _, _, _, _, _, _, rfl⟩, HD.out⟩
  · rintro n ac wr ⟨A, rfl, ⟨v6, v7, v8, v9, v10, v11, v12, v13, v14, v15, v16, v17, v18, v19, v20, v21, v22, v23, v24, v25, v26, v27, v28, v29, v30, v31, v32, v33, v34, v35, v36, rfl⟩, hD⟩
    have HD1 := hid hD
    have h1 := hD.q.first
    have h2 := hD.q.last
    have hf := hD.q.fz
    clear hD HD
    by_cases hA : A = []
    · subst hA
      rw [List.length_nil, Nat.add_zero] at h2
      go_wp2
      go_quiet (fail)
      go_wp2
      go_step3
      exact Or.inr ⟨rfl, [], Or.inl rfl, ⟨_, _, _, _, _, _, _, _, _, _, _, _, _, _, _, _, _, _, _, _, _, _, _, _, _, _, _, _, _, _, _, rfl⟩, ⟨HD1.out.q.below (below_drewN (Below.refl _ _) _), HD1.out.c.to hlt (below_drewN (Below.refl _ _) _), HD1.out.l⟩⟩
    · obtain ⟨A', x, rfl⟩ := snoc_of hA
      have h3 := HD1.out.q.atLast
      obtain ⟨e, he⟩ : ∃ e, e = a + (A' ++ [x]).length := ⟨_, rfl⟩
      rw [← he] at h2
      rw [List.length_append, List.length_singleton] at he
      have hA5 : A'.length < 511 := by
        obtain ⟨B, hB, -⟩ := HD1.out.l
        have := hL
        rw [hB, List.length_append, List.length_append, List.length_singleton] at this
        omega
      obtain ⟨e', he'⟩ : ∃ e', e' = a + A'.length := ⟨_, rfl⟩
      obtain ⟨s, hs⟩ : ∃ s, s = e' % 512 := ⟨_, rfl⟩
      have ht := tm512 e'
      rw [← he', ← hs] at h3
      rw [← hs] at ht
      have hs2 : (s : Int) < 512 := by omega
      have hd : ((a : Int) == (e : Int)) = false := by simp; omega
      have hw : IntKind.u64.wrap ((e : Int) - 1) = (e' : Int) := by rw [w64 (by omega)]; omega
      have HE := hid he'
      clear hA he hs he'
      by_cases hx : v < x.2
      · have hg : decide (v < x.2) = true := decide_eq_true hx
        go_wp2
        go_quiet (fail)
        go_wp2
        go_step3
        exact Or.inr ⟨rfl, A' ++ [x], Or.inr ⟨A', x, rfl, hx⟩, ⟨_, _, _, _, _, _, _, _, _, _, _, _, _, _, _, _, _, _, _, _, _, _, _, _, _, _, _, _, _, _, _, rfl⟩, ⟨HD1.out.q.below (below_drewN (Below.refl _ _) _), HD1.out.c.to hlt (below_drewN (Below.refl _ _) _), HD1.out.l⟩⟩
      · have hg : decide (v < x.2) = false := decide_eq_false hx
        have HX := hid hx
        go_wp2
        go_quiet (fail)
        go_wp2
        go_step3
        refine Or.inl ⟨rfl, A'.length, by simp, A', rfl, ⟨_, _, _, _, _, _, _, _, _, _, _, _, _, _, _, _, _, _, _, _, _, _, _, _, _, _, _, _, _, _, _, rfl⟩, ⟨(HD1.out.q.below (below_drewN (Below.refl _ _) _)).pop e' HE.out, (HD1.out.c.to hlt (below_drewN (Below.refl _ _) _)).cell (by omega) (by omega) _, ?_⟩⟩
        obtain ⟨B, hB, hB2⟩ := HD1.out.l
        refine ⟨x :: B, by rw [hB]; simp, fun y hy => ?_⟩
        rcases List.mem_cons.1 hy with rfl | hy
        · have := HX.out
          omega
        · exact hB2 y hy
  · rintro ac wr ⟨A, hA, ⟨v6, v7, v8, v9, v10, v11, v12, v13, v14, v15, v16, v17, v18, v19, v20, v21, v22, v23, v24, v25, v26, v27, v28, v29, v30, v31, v32, v33, v34, v35, v36, rfl⟩, hD⟩
    have hAl : A.length < 512 := by
      obtain ⟨B, hB, -⟩ := hD.l
      have := hL
      rw [hB, List.length_append] at this
      omega
    have hltr : k < wr.heap.size := hD.q.lt
    have hfz := hD.q.fz
    obtain ⟨e, he⟩ : ∃ e, e = a + A.length := ⟨_, rfl⟩
    obtain ⟨s, hs⟩ : ∃ s, s = e % 512 := ⟨_, rfl⟩
    have ht := tm512 e
    have h2 := hD.q.last
    rw [← he] at h2
    rw [← hs] at ht
    have hs2 : (s : Int) < 512 := by omega
    have hs3 : s < 512 := by omega
    obtain ⟨u0, hu0⟩ := Option.isSome_iff_exists.1 (hD.q.room s (by omega))
    have hw : IntKind.u64.wrap ((e : Int) + 1) = ((e + 1 : Nat) : Int) := w64 (by omega)
    have HS : Hid (s = (a + A.length) % 512) := by rw [← he]; exact hs
    have HE := hid he
    have HD1 := hid hD
    have HA := hid hA
    have HSM : Hid (a + A.length ≤ 1000512) := by show a + A.length ≤ 1000512; omega
    clear hs he hD hA HD
    go_wp2
    go_cut [3] (fun v3 wx => Dr w k o a v L A wx ∧ wx.cell? ⟨k, o + s, none⟩ = some (.int .i64 p))
    case first =>
      go_region
      all_goals
        go_wp2
        go_meet
        exact ⟨⟨(HD1.out.q.place hAl HS.out _).below (Below.refl _ _).drew, (HD1.out.c.cell (by omega) (by omega) _).to hlt (Below.refl _ _).drew, HD1.out.l⟩, set_same (HD1.out.q.room s (by omega))⟩
    case rest =>
      obtain ⟨hD, hp⟩ := hcut
      clear h2 hfz hltr hu0
      have hltr : k < wc.heap.size := hD.q.lt
      have hfz := hD.q.fz
      have h2 := hD.q.last
      rw [← HE.out] at h2
      obtain ⟨u1, hu1⟩ := Option.isSome_iff_exists.1 (hD.q.room (512 + s) (by omega))
      rw [← Nat.add_assoc] at hu1
      have HD2 := hid hD
      have HP := hid hp
      clear hD hp HD1
      go_wp2
      go_cut [3] (fun v3 wx => Dr w k o a v L A wx ∧ wx.cell? ⟨k, o + s, none⟩ = some (.int .i64 p) ∧ wx.cell? ⟨k, o + 512 + s, none⟩ = some (.int .u8 v))
      case first =>
        go_region
        all_goals
          go_wp2
          go_meet
          refine ⟨⟨(HD2.out.q.value hAl HS.out _).below (Below.refl _ _).drew, (HD2.out.c.cell (by omega) (by omega) _).to hlt (Below.refl _ _).drew, HD2.out.l⟩, ?_, ?_⟩
          · exact (set_diff (by omega)).trans HP.out
          · exact set_same (by have := HD2.out.q.room (512 + s) (by omega); rwa [← Nat.add_assoc] at this)
      case rest =>
        obtain ⟨hD, hp, hv⟩ := hcut
        obtain ⟨w3, rfl⟩ : ∃ w3, w3 = wc := ⟨_, rfl⟩
        clear h2 hfz hltr hu1 HP HD2
        have hltr : k < w3.heap.size := hD.q.lt
        have hfz := hD.q.fz
        have h2 := hD.q.last
        rw [← HE.out] at h2
        have HD3 := hid (And.intro hD (And.intro hp hv))
        clear hD hp hv
        go_wp2
        refine jump_normal ?_
        refine bodyPost_end (v := .tuple #[]) (by simp [results, Try.results57, go_sem]) rfl ⟨rfl, ?_, ?_⟩
        · obtain ⟨B, hB, hB2⟩ := HD3.out.1.l
          exact ⟨A, B, hB, hB2, HA.out, HD3.out.1.q.push HS.out HD3.out.2.1 HD3.out.2.2 (e + 1) (by rw [HE.out])⟩
        · exact HD3.out.1.c.cell (by omega) (by omega) _
end Go.Proofs.Ytfkbdpbgeglgaaa
