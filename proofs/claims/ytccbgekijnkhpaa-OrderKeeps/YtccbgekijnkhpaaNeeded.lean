/- Which nodes are needed, by the code: the contract. -/
import Derived.Test.YtccbgekijnkhpaaNeed
namespace Go.Proofs.Ytccbgekijnkhpaa
open Num Go.RowKit
set_option linter.unusedVariables false
set_option linter.unusedSimpArgs false

theorem cut28 (n c b off m : Nat) (hc : 0 < c) (hm : m ≤ c) (hb : c ≤ maxLen) (w : World) : (Instr.slice 28 (.slice (some ⟨b, off, none⟩) n c) none (some (.int .i64 m)) none).run Try.prog w = .ok (.slice (some ⟨b, off, none⟩) m c) w := by
  have h1 : ¬ (c = 0) := by omega
  have z3 := Try.sizeOf3
  have u28 := Try.underlying28
  have e1 : Try.prog.elem 28 = 3 := by simp [Program.elem, u28]
  rw [run_slice_h (w := w) (t := 28) (ht := by rw [e1]; exact u28) (kh := .i64) (h0 := by omega) (h2 := by omega), e1]
  simp [go_sem, sliced, h1, z3, Addr.add]
theorem cut28' (n c b off m : Nat) (hc : 0 < c) (hm : m ≤ c) (hb : c ≤ maxLen) (w : World) : (Instr.sliceAt 28 (.slice (some ⟨b, off, none⟩) n c) none (some (.int .i64 m)) none).run Try.prog w = .ok (.slice (some ⟨b, off, none⟩) m c) w := by
  have u28 := Try.underlying28
  have e1 : Try.prog.elem 28 = 3 := by simp [Program.elem, u28]
  rw [run_sliceAt_slice (h := by rw [e1]; exact u28), cut28 n c b off m hc hm hb w]
theorem nt_start (w : World) (ao : Option Addr) (n c : Nat) (out : Int) (hn : n ≤ 1000) :
    Nt w (w.heap.size + 1 + 1 + 1 + 1) w.heap.size (w.heap.size + 1) (w.heap.size + 1 + 1) (w.heap.size + 1 + 1 + 1) ao n c out (List.replicate n false) none 0 0 0 0 []
      ((((w.alloc (.cells #[.slice ao n c, .int .i64 out] 24)).alloc (.cells (bools (List.replicate n false)).toArray 4)).alloc (.cells #[.slice (some ⟨w.heap.size + 1, 0, none⟩) n n] 30)).alloc (.cells #[.slice none 0 0] 28)) := by
  have h0 := mk_start w ao n c out hn
  have hz : ((w.alloc (.cells #[.slice ao n c, .int .i64 out] 24)).alloc (.cells (bools (List.replicate n false)).toArray 4)).heap.size = w.heap.size + 1 + 1 := by simp
  generalize ((w.alloc (.cells #[.slice ao n c, .int .i64 out] 24)).alloc (.cells (bools (List.replicate n false)).toArray 4)) = W at *
  have h1 := World.cell?_alloc_new W #[.slice (some ⟨w.heap.size + 1, 0, none⟩) n n] 30 0
  rw [hz] at h1
  have hz1 : (W.alloc (.cells #[.slice (some ⟨w.heap.size + 1, 0, none⟩) n n] 30)).heap.size = w.heap.size + 1 + 1 + 1 := by simp [hz]
  have hb : Below W.heap.size W (W.alloc (.cells #[.slice (some ⟨w.heap.size + 1, 0, none⟩) n n] 30)) := (Below.refl _ _).alloc (Nat.le_refl _) _
  have h2 := h0.below hb
  generalize (W.alloc (.cells #[.slice (some ⟨w.heap.size + 1, 0, none⟩) n n] 30)) = W1 at *
  have g1 := World.cell?_alloc_new W1 #[.slice none 0 0] 28 0
  have g2 := World.frozen?_alloc_new W1 #[.slice none 0 0] 28 0
  rw [hz1] at g1 g2
  have hb1 : Below W1.heap.size W1 (W1.alloc (.cells #[.slice none 0 0] 28)) := (Below.refl _ _).alloc (Nat.le_refl _) _
  have hz2 : (W1.alloc (.cells #[.slice none 0 0] 28)).heap.size = w.heap.size + 1 + 1 + 1 + 1 := by simp [hz1]
  exact ⟨h2.below hb1, cell_below hb1 h1, g1, g2, oi_nil _ _ _, by rw [hz2]; exact Nat.le_refl _, ⟨by omega, by omega, by omega, by omega⟩, ⟨by omega, by omega, by omega, by omega⟩, by omega⟩

theorem na_cnt_pop {D : List Bool} {T0 : List Nat} {a gk : Nat} (h : cntF D + (T0 ++ [a]).length = gk) : cntF D + T0.length + 1 = gk := by rw [List.length_append, List.length_singleton] at h; omega
theorem snoc_of {T : List Nat} {r : Nat} (h : T.length = r + 1) : ∃ T0 a, T = T0 ++ [a] ∧ T0.length = r := by
  have hne : T ≠ [] := fun e => by subst e; simp at h
  have e := List.dropLast_concat_getLast hne
  refine ⟨T.dropLast, T.getLast hne, e.symm, ?_⟩
  rw [List.length_dropLast]; omega
set_option maxRecDepth 100000 in
set_option maxHeartbeats 4000000 in
theorem needed_any (ao : Option Addr) (n c b off : Nat) (L : List Nv) (out : Int) (w : World) (h : Vn w ao n c b off L) (hf : Few n L) :
    Calls Try.prog 15 #[.agg #[.slice ao n c, .int .i64 out]] w fun e w' => (∃ N, RetT w.heap.size w' e N ∧ Nd (insL L) out N) ∧ Below w.heap.size w w' := by
  have hl := vn_len h
  have hn := hf.n
  have hr := run_falses n (by omega)
  have H := hid (And.intro h (And.intro hf hl))
  have hm := nt_start w ao n c out hn
  have hG : Hid ((insL L).length = n) := by show (insL L).length = n; rw [insL_len, hl]
  clear h hl hf
  go_enter Try.func15, Try.ntmps15
  go_wp2_with (first
    | (go_at_call 26; with_reducible refine Calls.mono (need_any _ _ _ _ _ _ _ _ _ _ _ _ _ _ _ _ _ _ _ hm ‹_› (by decide)) ?_; rintro e w1 ⟨rfl, D1, T1, ao1, r1, c1, b1, o1, hN, hX⟩; have H1 := hid (And.intro hN hX); have hct := hN.ct; clear hN hX hm))
  have hnx := H1.out.2
  have hna := nx_na hG.out (by have := na_start (insL L) out; rw [hG.out] at this; exact this) hnx (fun k e hk => Rch.out k e (by rw [hG.out]; exact hk))
  have hcn := nx_cnt hnx (by simp)
  rw [cntF_none, List.length_nil, Nat.add_zero] at hcn
  have hmk := nx_mark hnx (by simp)
  have H2 := hid (And.intro H1.out.1 (And.intro hna (And.intro hcn hmk)))
  clear hnx hna hcn hmk H1 hct hr
  generalize w.heap.size + 1 + 1 + 1 + 1 = B at *
  generalize w.heap.size + 1 + 1 + 1 = kt at *
  generalize w.heap.size + 1 + 1 = kn at *
  generalize w.heap.size + 1 = g at *
  go_loopg [6, 8] n (fun gk x6 x8 wr => ∃ (w2 : World) (D : List Bool) (T : List Nat) (ao2 : Option Addr) (r c2 b2 o2 : Nat), w2 = wr ∧ gk ≤ n ∧ cntF D + T.length = gk ∧ Nt w B w.heap.size g kn kt ao n c out D ao2 r c2 b2 o2 T w2 ∧ Na (insL L) out (fun _ => False) D T ∧ (∀ k : Nat, out = (k : Int) → k < n → bt D k = true))
  case atStart => exact ⟨_, D1, T1, _, _, _, _, _, rfl, Nat.le_refl _, H2.out.2.2.1, H2.out.1, H2.out.2.1, H2.out.2.2.2⟩
  case round =>
    obtain ⟨w2, D, T, ao2, r, c2, b2, o2, rfl, hgk, hcn, hN, hA, hM⟩ := hrel
    have hrT : T.length = r := by have := vi_len hN.li.v; rw [castL_len] at this; exact this
    have H3 := hid (And.intro hN (And.intro hA (And.intro hM (And.intro hcn hrT))))
    have hct := hN.ct
    have hcnn := hN.cn
    have hfz := hN.fz
    obtain ⟨d0, d1⟩ := hN.m.bx
    have hrn : r ≤ 1000 := by omega
    clear hN hA hM hcn hrT H2
    by_cases hr0 : r = 0
    · subst hr0
      go_wp2
      go_ret
      have hT : T = [] := List.length_eq_zero_iff.1 H3.out.2.2.2.2
      have ha := H3.out.2.1
      rw [hT] at ha
      exact ⟨⟨D, ⟨_, _, _, _, _, rfl, H3.out.1.m.d⟩, na_end ha (fun k e hk => H3.out.2.2.1 k e (by rw [hG.out] at hk; exact hk))⟩, H3.out.1.m.low⟩
    · obtain ⟨r', rfl⟩ : ∃ r', r = r' + 1 := ⟨r - 1, by omega⟩
      obtain ⟨T0, a, rfl, hT0⟩ := snoc_of H3.out.2.2.2.2
      obtain ⟨ha, hba, hna⟩ := na_pop H3.out.2.1
      rw [hG.out] at ha
      have haz : (a : Int) < (n : Int) := by omega
      have e0 := (vi_at H3.out.1.li.v (i := r') (castL_get (k := a) (by rw [List.getElem?_append_right (by omega), hT0]; simp))).2
      obtain rfl := H3.out.1.li.v.addr (by have := H3.out.1.li.v.le; omega)
      have s0 := cut28 (r' + 1) c2 b2 o2 r' (by have := H3.out.1.li.v.le; omega) (by have := H3.out.1.li.v.le; omega) H3.out.1.li.v.max
      have s1 := cut28' (r' + 1) c2 b2 o2 r' (by have := H3.out.1.li.v.le; omega) (by have := H3.out.1.li.v.le; omega) H3.out.1.li.v.max
      have hz : ((r' + 1 : Nat) : Int) - 1 = (r' : Int) := by omega
      have hz1 : (r' : Int) < ((r' + 1 : Nat) : Int) := by omega
      have hz2 : 0 < ((r' + 1 : Nat) : Int) := by omega
      have htk : (castL (T0 ++ [a])).take r' = castL T0 := by rw [castL_app, List.take_append_of_le_length (by rw [castL_len]; omega), List.take_of_length_le (by rw [castL_len]; omega)]
      have hli := oi_take H3.out.1.li (k := r') (by omega)
      rw [htk] at hli
      obtain ⟨-, -, hN4⟩ := nt_list H3.out.1 (Below.refl _ _) hli
      obtain ⟨v, hv⟩ : ∃ v, L[a]? = some v := ⟨_, List.getElem?_eq_getElem (by rw [H.out.2.2]; exact ha)⟩
      obtain ⟨hao, ⟨f0, f1, f2⟩, hvi, hvp⟩ := vn_at (H.out.1.below hN4.m.low) hv
      have HE := hid (And.intro (insL_at hv) (And.intro (H.out.1.i v (List.mem_of_getElem? hv)) (vi_len hvi)))
      have hni := H.out.2.1.i v (List.mem_of_getElem? hv)
      obtain ⟨p0, p1⟩ := hN4.m.bx
      have H4 := hid (And.intro hN4 (And.intro hna (And.intro (na_cnt_pop (T0 := T0) (a := a) H3.out.2.2.2.1) hba)))
      clear hv hvi hvp hli htk hna hba f0 f2 hN4
      generalize v.ai = ai at *
      generalize v.ni = ni at *
      generalize v.ci = ci at *
      generalize v.bi = bi at *
      generalize v.oi = oi at *
      generalize v.l = l at *
      clear v
      go_wp2
      clear hao p0 p1 f1 hct hcnn hfz d0 d1 e0 s0 s1
      generalize (w2.setCell ⟨kt, 0, none⟩ (.slice (some ⟨b2, o2, none⟩) r' c2)) = W4 at *
      have HO := hid H3.out.2.2.1
      clear H3
      generalize (some ⟨b2, o2, none⟩ : Option Addr) = a4 at *
      go_loopg [8, 39] ni (fun gj x8 x39 wr => ∃ (w5 : World) (j : Nat) (D : List Bool) (T : List Nat) (ao2 : Option Addr) (r c2 b2 o2 : Nat), w5 = wr ∧ j ≤ ni ∧ gj = ni - j ∧ x39 = .int .i64 j ∧ Nt w B w.heap.size g kn kt ao n c out D ao2 r c2 b2 o2 T w5 ∧ Na (insL L) out (fun i => i = a) D T ∧ cntF D + T.length + 1 = gk ∧ bt D a = true ∧ (∀ k : Nat, out = (k : Int) → k < n → bt D k = true) ∧ (∀ k : Nat, (k : Int) ∈ l.take j → k < n → bt D k = true))
      case atStart => exact ⟨_, 0, D, T0, _, _, _, _, _, rfl, Nat.zero_le _, rfl, rfl, H4.out.1, H4.out.2.1, H4.out.2.2.1, H4.out.2.2.2, HO.out, fun k hk => by simp at hk⟩
      case round =>
        obtain ⟨w5, j, D5, T5, ao5, r5, c5, b5, o5, rfl, hj, rfl, rfl, hN, hA, hcn, hba, hM, hI⟩ := hrel
        have hr5 : T5.length = r5 := by have := vi_len hN.li.v; rw [castL_len] at this; exact this
        have hr5n : r5 ≤ 2000 := by omega
        have H5 := hid (And.intro hN (And.intro hA (And.intro hcn (And.intro hba (And.intro hM hI)))))
        clear hN hA hcn hba hM hI hr5 H4 HO
        by_cases hjlt : j < ni
        · have hjlz : (j : Int) < (ni : Int) := by omega
          obtain ⟨x, hx⟩ : ∃ m, l[j]? = some m := ⟨_, List.getElem?_eq_getElem (by rw [HE.out.2.2]; exact hjlt)⟩
          obtain ⟨rfl, e0⟩ := vi_at (HE.out.2.1.below H5.out.1.m.low) hx
          have HX := hid hx
          clear hx
          go_wp2_with (first
            | (go_at_call 26; with_reducible refine Calls.mono (need_any _ _ _ _ _ _ _ _ _ _ _ _ _ _ _ _ _ _ _ H5.out.1 ‹_› ‹_›) ?_; rintro e w6 ⟨rfl, D6, T6, ao6, r6, c6, b6, o6, hN, hX⟩; have H6 := hid (And.intro hN hX); clear hN hX))
          go_roundg (ni - (j + 1))
          case measure => omega
          case rel =>
            have hnx := H6.out.2
            have hxa : ∀ k : Nat, x = (k : Int) → k < n → Rch (insL L) out k := fun k e hk => by
              have hha : hasB (insL L) a k = true := has_iff.2 (by rw [HE.out.1, ← e]; exact List.mem_of_getElem? HX.out)
              exact Rch.step a k (H5.out.2.1.sound a (by rw [hG.out]; exact ha) H5.out.2.2.2.1) (by rw [hG.out]; exact hk) hha
            refine ⟨_, j + 1, D6, T6, _, _, _, _, _, rfl, hjlt, rfl, by simp, H6.out.1, nx_na hG.out H5.out.2.1 hnx hxa, by rw [nx_cnt hnx H5.out.1.m.len]; exact H5.out.2.2.1, nx_mono hnx H5.out.2.2.2.1, fun k e hk => nx_mono hnx (H5.out.2.2.2.2.1 k e hk), fun k hk hkn => ?_⟩
            rw [List.take_add_one, HX.out] at hk
            rcases List.mem_append.1 hk with hk | hk
            · exact nx_mono hnx (H5.out.2.2.2.2.2 k hk hkn)
            · simp at hk
              exact nx_mark hnx H5.out.1.m.len k hk.symm hkn
        · obtain rfl : j = ni := by omega
          go_wp2
          go_roundg (gk - 1)
          case measure => have := H5.out.2.2.1; omega
          case rel =>
            have hcn := H5.out.2.2.1
            refine ⟨_, D5, T5, _, _, _, _, _, rfl, by omega, by omega, H5.out.1, na_done H5.out.2.1 (fun k hk hh => H5.out.2.2.2.2.2 k ?_ (by rw [hG.out] at hk; exact hk)), H5.out.2.2.2.2.1⟩
            rw [List.take_of_length_le (by rw [HE.out.2.2]; exact Nat.le_refl _), ← HE.out.1]
            exact has_iff.1 hh
end Go.Proofs.Ytccbgekijnkhpaa
