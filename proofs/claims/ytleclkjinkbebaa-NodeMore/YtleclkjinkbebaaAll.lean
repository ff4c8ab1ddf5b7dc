/- The order, by the code: the contract. -/
import Derived.Test.YtleclkjinkbebaaKahn
namespace Go.Proofs.Ytleclkjinkbebaa
open Num Go.RowKit
set_option linter.unusedVariables false
set_option linter.unusedSimpArgs false
attribute [local go_sem ↓] run_app
attribute [local go_sem] lenV_slice

theorem usesL_small (G : List (List Int)) {n : Nat} (hn : G.length = n) (h : n ≤ 1000) : ∀ u, u ∈ usesL G → u.length ≤ 1001 ∧ ∀ k, k ∈ u → k < n := by
  intro u hu
  unfold usesL at hu
  obtain ⟨i, hi, rfl⟩ := List.mem_map.1 hu
  exact ⟨by have := uses_len G i; omega, fun k hk => by have := (mem_uses.1 hk).1; omega⟩
theorem lack_k0 {G : List (List Int)} {n : Nat} {K : List Int} (hn : G.length = n) (h : Lk (usesL G) n n 0 K) : K0 G 0 K [] := by
  subst hn
  refine k0_start h.1 fun k hk => ?_
  rw [h.2 k hk]
  have := lack_start hk
  rw [usesL_len] at this
  rw [this]

theorem lt_cast {x a q : Nat} (h : x = a) (hq : q < x) : (q : Int) < (a : Int) := by omega
theorem lv_get {V : List Lv} {G : List (List Int)} (h : V.map Lv.l = (usesL G).map castL) {i : Nat} (hi : i < G.length) : ∃ v, V[i]? = some v ∧ v.l = castL (usesG G i) := by
  have h1 : ((usesL G).map castL)[i]? = some (castL (usesG G i)) := by rw [List.getElem?_map, usesL_get hi]; rfl
  rw [← h, List.getElem?_map] at h1
  cases hv : V[i]? with
  | none => rw [hv] at h1; cases h1
  | some v => rw [hv] at h1; exact ⟨v, rfl, Option.some.inj h1⟩
theorem fs_bel {B T : Nat} {W w : World} {ao : Option Addr} {n c g off : Nat} {V : List Lv} (hT : W.heap.size = T) (h : Fs B W ao n c g off V) (hb : Below T W w) : Fs B w ao n c g off V := by subst hT; exact h.below hb
theorem vi_bel {T : Nat} {W w : World} {ao : Option Addr} {n c b off : Nat} {l : List Int} (hT : W.heap.size = T) (h : Vi W ao n c b off l) (hb : Below T W w) : Vi w ao n c b off l := by subst hT; exact h.below hb
set_option maxRecDepth 100000 in
set_option maxHeartbeats 8000000 in
theorem all_any (ao : Option Addr) (n c b off : Nat) (L : List Nv) (out : Int) (w : World) (h : Vn w ao n c b off L) (hf : Few n L) :
    Calls Try.prog 17 #[.agg #[.slice ao n c, .int .i64 out]] w fun e w' => RetI w.heap.size w' e (castL (ordG (insL L))) ∧ Below w.heap.size w w' := by
  have hl := vn_len h
  have hn := hf.n
  have hB0 := (Below.refl w.heap.size w).alloc (Nat.le_refl _) (.cells #[.slice ao n c, .int .i64 out] 24)
  have hG : Hid ((insL L).length = n) := by show (insL L).length = n; rw [insL_len, hl]
  have H := hid (And.intro (h.below hB0) (And.intro hf hB0))
  clear h hl hf hB0
  go_enter Try.func17, Try.ntmps17
  go_wp2_with (first
    | (go_at_call 26; with_reducible refine Calls.mono (uses1_any _ _ _ b off L _ _ H.out.1 H.out.2.1) ?_; rintro e w1 ⟨hr, hb⟩; obtain ⟨g, V, rfl, hV, hU⟩ := retU1 hr; have H1 := hid (And.intro hV (And.intro hU (via (w := w) H.out.2.2 hb))); clear hr hV hU hb)
    | (go_at_call 27; with_reducible refine Calls.mono (lacking_any _ n g V (usesL (insL L)) _ H1.out.1 H1.out.2.1 ‹_› (usesL_small _ hG.out ‹_›)) ?_; rintro e w2 ⟨⟨K, hr, hK⟩, hb⟩; obtain ⟨gl, rfl, hO, hg1, hg2⟩ := retI1 hr; have H2 := hid (And.intro hb (And.intro hO hK)); clear hr hO hK hb))
  have hbw : Below w2.heap.size w2 ((w2.alloc (.cells #[] 3)).alloc (.cells #[.slice (some ⟨w2.heap.size, 0, none⟩) 0 0] 54)) := ((Below.refl _ _).alloc (Nat.le_refl _) _).alloc (by simp) _
  have hst : Al w1.heap.size w2.heap.size (w2.heap.size + 1) gl n w1 K (some ⟨w2.heap.size, 0, none⟩) 0 0 0 0 [] none 0 0 0 0 [] ((w2.alloc (.cells #[] 3)).alloc (.cells #[.slice (some ⟨w2.heap.size, 0, none⟩) 0 0] 54)) :=
    ⟨via (w := w1) H2.out.1 hbw, hbw.size, H2.out.2.1.below hbw, hg2, hg1, hp_new (Nat.le_refl _), fun i h0 h1 => by omega, oi_nil _ _ _, fun hc => absurd hc (by omega), fun hc => absurd hc (by omega)⟩
  generalize ((w2.alloc (.cells #[] 3)).alloc (.cells #[.slice (some ⟨w2.heap.size, 0, none⟩) 0 0] 54)) = W3 at *
  have HS := hid (And.intro hst (lack_k0 hG.out H2.out.2.2))
  clear hst hbw
  generalize hk : w2.heap.size + 1 = k at *
  generalize (some ⟨w2.heap.size, 0, none⟩ : Option Addr) = aoh at *
  generalize hB : w2.heap.size = B at *
  generalize hT : w1.heap.size = T at *
  clear hk hB
  go_loopg [6, 7, 20] n (fun gk x6 x7 x20 wr => ∃ (w3 : World) (a : Nat) (ao' : Option Addr) (m c' b' off' : Nat) (l : List Int), w3 = wr ∧ a ≤ n ∧ gk = n - a ∧ x20 = .int .i64 a ∧ Al T B k gl n w1 K ao' m c' b' off' l none 0 0 0 0 [] w3 ∧ K0 (insL L) a K l)
  case atStart => exact ⟨_, 0, _, 0, 0, 0, 0, [], rfl, Nat.zero_le _, rfl, rfl, HS.out.1, HS.out.2⟩
  case round =>
    obtain ⟨w3, a, ao', m, c', b', off', l, rfl, ha, rfl, rfl, hal, hk0⟩ := hrel
    have A1 := hid (And.intro hal hk0)
    clear hal hk0 HS
    by_cases hlt : a < n
    · have hltz : (a : Int) < (n : Int) := by omega
      have e0 := oi_nth0 A1.out.1.kk hlt
      have hmn : m ≤ 100000 := by have h1 := hp_len A1.out.1.hp; have h2 := k0_len A1.out.2; omega
      by_cases hz : nth K a = 0
      · have HZ := hid hz
        rw [hz] at e0
        clear hz
        go_wp2_with (first
          | (go_at_call 28; with_reducible refine Calls.mono (hpush_any B k _ m _ _ _ l (a : Int) _ A1.out.1.hp A1.out.1.heap A1.out.1.size ‹_›) ?_; rintro e w4 ⟨rfl, ⟨ao3, c3, b3, off3, l3, hp3, hh3, hperm3, hpl⟩, hb⟩; have A2 := hid (And.intro (al_push A1.out.1 hb hp3 hh3 hpl) hperm3); clear hp3 hh3 hperm3 hpl hb))
        go_roundg (n - (a + 1))
        case measure => omega
        case rel => exact ⟨_, a + 1, _, _, _, _, _, _, rfl, hlt, rfl, by simp, A2.out.1, k0_perm (k0_push A1.out.2 HZ.out) A2.out.2⟩
      · have HZ := hid hz
        go_wp2
        go_roundg (n - (a + 1))
        case measure => omega
        case rel => exact ⟨_, a + 1, _, _, _, _, _, _, rfl, hlt, rfl, by simp, A1.out.1, k0_step A1.out.2 HZ.out⟩
    · obtain rfl : a = n := by omega
      have hka := hid (k0_end (by rw [hG.out]; exact A1.out.2))
      go_wp2
      go_loopg [8, 9, 11] a (fun gk x8 x9 x11 wr => ∃ (w4 : World) (K : List Int) (ao' : Option Addr) (m c' b' off' : Nat) (l : List Int) (ao2 : Option Addr) (r c2 b2 o2 : Nat) (M : List Nat), w4 = wr ∧ r ≤ a ∧ gk = a - r ∧ x8 = .slice ao2 r c2 ∧ Al T B k gl a w1 K ao' m c' b' off' l ao2 r c2 b2 o2 M w4 ∧ Ka (insL L) M K l)
      case atStart => exact ⟨_, K, _, _, _, _, _, _, none, 0, 0, 0, 0, [], rfl, Nat.zero_le _, rfl, rfl, A1.out.1, hka.out⟩
      case round =>
        obtain ⟨w4, K', ao'', m, c', b', off', l, ao2, r, c2, b2, o2, M, rfl, hr, rfl, rfl, hal, hka'⟩ := hrel
        have A2 := hid (And.intro hal hka')
        have hc0 := hal.hp.cell
        have hml : m ≤ 1000 := by have h1 := hp_len hal.hp; have h2 := ka_len hka'; rw [hG.out] at h2; omega
        have hrM : M.length = r := by have := vi_len hal.li.v; rw [castL_len] at this; exact this
        have HM := hid hrM
        clear hal hka' hka A1 hrM
        by_cases hm0 : m = 0
        · subst hm0
          go_wp2_with (first
            | (go_at_call 29; with_reducible refine Calls.mono (len_any _ _ _ _ (by decide)) ?_; rintro e w5 ⟨rfl, hw⟩; replace hw := hw.symm; subst hw))
          go_ret
          have hl0 : l = [] := List.length_eq_zero_iff.1 (hp_len A2.out.1.hp)
          have hka2 := A2.out.2
          rw [hl0] at hka2
          have e := ka_none hka2
          have hlow := A2.out.1.low
          rw [← hT] at hlow
          have hTB := A2.out.1.TB
          exact ⟨⟨_, _, _, _, _, rfl, by rw [← e]; exact A2.out.1.li.mono (by have h1 := H1.out.2.2.size; omega)⟩, via (w := w) H1.out.2.2 hlow⟩
        · obtain ⟨m', rfl⟩ : ∃ m', m = m' + 1 := ⟨m - 1, by omega⟩
          have hmz : 0 < (((m' + 1 : Nat)) : Int) := by omega
          have hm1 : m' ≤ 100000 := by omega
          go_wp2_with (first
            | (go_at_call 29; with_reducible refine Calls.mono (len_any _ _ _ _ (Nat.le_trans hml (by decide))) ?_; rintro e w5 ⟨rfl, hw⟩; replace hw := hw.symm; subst hw)
            | (go_at_call 30; with_reducible refine Calls.mono (least_any B k _ m' _ _ _ l _ A2.out.1.hp A2.out.1.heap A2.out.1.size ‹_›) ?_; rintro e w5 ⟨⟨x, l2, rfl, hp2, hh2, hperm, hmin⟩, hb⟩; obtain ⟨q, rfl, hq, hroom, hkb⟩ := ka_pop A2.out.2 hperm hmin; have A3 := hid (al_pop A2.out.1 hb hp2 hh2); clear hp2 hh2 hperm hmin hb hc0; obtain ⟨b5, o5, hA⟩ := app28 A3.out.li A3.out.size (Nat.le_trans hr (Nat.le_trans hn (by decide))) (q : Int); have hF := app28_fine hA; have A4 := hid (And.intro (al_app A3.out q hA) hkb); obtain ⟨u, hu, hul⟩ := lv_get H1.out.2.1 hq; obtain ⟨-, u0, -, -⟩ := fs_at (fs_bel hT H1.out.1 A4.out.1.low) hu; rw [Nat.zero_add] at u0; have HU := hid (And.intro hu hul); have hqa := lt_cast hG.out hq; clear hA hkb hu hul))
          have hvi := (H1.out.1.v u (List.mem_of_getElem? HU.out.1)).v
          rw [HU.out.2] at hvi
          have hun : u.n = (usesG (insL L) q).length := by have := vi_len hvi; rw [castL_len] at this; omega
          have hu1 : u.n ≤ 1001 := by have := uses_len (insL L) q; rw [hG.out] at this; omega
          have HV := hid (And.intro hvi hun)
          have HR := hid (And.intro hroom hq)
          clear HU hvi hun hF hq hroom A3
          generalize apW Try.prog #[29, 29] 29 (w5.alloc (.cells #[.int .i64 (q : Int)] 3)) (.slice ao2 r c2) (.slice (some ⟨w5.heap.size, 0, none⟩) 1 1) = W6 at *
          generalize apA Try.prog #[29, 29] 29 (w5.alloc (.cells #[.int .i64 (q : Int)] 3)) (.slice ao2 r c2) (.slice (some ⟨w5.heap.size, 0, none⟩) 1 1) = A6 at *
          generalize apC Try.prog #[29, 29] 29 (w5.alloc (.cells #[.int .i64 (q : Int)] 3)) (.slice ao2 r c2) (.slice (some ⟨w5.heap.size, 0, none⟩) 1 1) = C6 at *
          generalize u.ao = ua at *
          generalize u.n = un at *
          generalize u.c = uc at *
          generalize u.b = ub at *
          generalize u.off = uo at *
          clear u A2
          go_loopg [11, 49] un (fun gk x11 x49 wr => ∃ (w7 : World) (j : Nat) (K : List Int) (ao' : Option Addr) (m c' b' off' : Nat) (l : List Int), w7 = wr ∧ j ≤ un ∧ gk = un - j ∧ x49 = .int .i64 j ∧ Al T B k gl a w1 K ao' m c' b' off' l A6 (r + 1) C6 b5 o5 (M ++ [q]) w7 ∧ Kb (insL L) M q j K l)
          case atStart => exact ⟨_, 0, K', _, _, _, _, _, _, rfl, Nat.zero_le _, rfl, rfl, A4.out.1, A4.out.2⟩
          case round =>
            obtain ⟨w7, j, K2, ao7, m7, c7, b7, off7, l7, rfl, hj, rfl, rfl, hal, hkb⟩ := hrel
            have A7 := hid (And.intro hal hkb)
            clear hal hkb A4 u0
            by_cases hjlt : j < un
            · have hjlz : (j : Int) < (un : Int) := by omega
              obtain ⟨t, ht⟩ : ∃ t, (usesG (insL L) q)[j]? = some t := ⟨_, List.getElem?_eq_getElem (by rw [← HV.out.2]; exact hjlt)⟩
              obtain ⟨rfl, e0⟩ := vi_at (vi_bel hT HV.out.1 A7.out.1.low) (castL_get ht)
              obtain ⟨t1, t2, t3, t4, -⟩ := kb_user A7.out.2 ht
              rw [hG.out] at t1 t3
              have htz : (t : Int) < (a : Int) := by omega
              have e1 := oi_nth0 A7.out.1.kk t1
              have e2 := oi_fz0 A7.out.1.kk t1
              have hm7 : m7 ≤ 100000 := by have h1 := hp_len A7.out.1.hp; have h2 := kb_len A7.out.2; rw [hG.out] at h2; omega
              have HT := hid ht
              clear ht
              by_cases hz : nth K2 t - 1 = 0
              · have hs := al_less A7.out.1 t1 (nth K2 t - 1)
                have hp := kb_push A7.out.2 HT.out hz
                rw [hz] at hs hp
                have HP := hid (And.intro hs hp)
                clear hs hp
                go_wp2_with (first
                  | (go_at_call 28; with_reducible refine Calls.mono (hpush_any B k _ m7 _ _ _ l7 (t : Int) _ HP.out.1.hp HP.out.1.heap HP.out.1.size ‹_›) ?_; rintro e w8 ⟨rfl, ⟨ao3, c3, b3, off3, l3, hp3, hh3, hperm3, hpl⟩, hb⟩; have A8 := hid (And.intro (al_push HP.out.1 hb hp3 hh3 hpl) hperm3); clear hp3 hh3 hperm3 hpl hb))
                go_roundg (un - (j + 1))
                case measure => omega
                case rel => exact ⟨_, j + 1, _, _, _, _, _, _, _, rfl, hjlt, rfl, by simp, A8.out.1, kb_perm HP.out.2 A8.out.2⟩
              · have HP := hid (And.intro (al_less A7.out.1 t1 (nth K2 t - 1)) (kb_step A7.out.2 HT.out hz))
                go_wp2
                go_roundg (un - (j + 1))
                case measure => omega
                case rel => exact ⟨_, j + 1, _, _, _, _, _, _, _, rfl, hjlt, rfl, by simp, HP.out.1, HP.out.2⟩
            · obtain rfl : j = un := by omega
              go_wp2
              go_roundg (a - (r + 1))
              case measure => have h1 := HR.out.1; have h2 := HM.out; have h3 := hG.out; omega
              case rel => exact ⟨_, _, _, _, _, _, _, _, _, r + 1, _, _, _, _, rfl, by have h1 := HR.out.1; have h2 := HM.out; have h3 := hG.out; omega, rfl, rfl, A7.out.1, kb_end (by rw [← HV.out.2]; exact A7.out.2)⟩
end Go.Proofs.Ytleclkjinkbebaa
