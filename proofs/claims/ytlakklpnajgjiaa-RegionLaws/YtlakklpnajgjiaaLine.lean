/- Two lists of edges merged: what stretches of the line come of it. -/
import Derived.Test.YtlakklpnajgjiaaBands
namespace Go.Proofs.Ytlakklpnajgjiaa.Num
set_option linter.unusedVariables false

/-- whether a place is within, by the edges ahead and whether one is within now -/
def inE : List Int → Bool → Int → Bool
  | [], p, z => p
  | x :: l, p, z => if z < x then p else inE l (!p) z
def fin : List Int → Bool → Bool
  | [], p => p
  | x :: l, p => fin l (!p)
def es (l : List Iv) : List Int := l.flatMap fun p => [p.a, p.b]
theorem es_cons (p : Iv) (l : List Iv) : es (p :: l) = p.a :: p.b :: es l := rfl
theorem edges_rects (y0 y1 : Int) : ∀ l : List Iv, edges (rects y0 y1 l) = es l
  | [] => rfl
  | p :: l => by
    have ih := edges_rects y0 y1 l
    simp only [rects, edges, List.map_cons, List.flatMap_cons, List.cons_append, List.nil_append] at *
    rw [ih, es_cons]
theorem es_mem : ∀ {l : List Iv} {e : Int}, e ∈ es l → ∃ p ∈ l, e = p.a ∨ e = p.b
  | p :: l, e, h => by
    rw [es_cons] at h
    rcases List.mem_cons.1 h with rfl | h
    · exact ⟨p, List.mem_cons_self, .inl rfl⟩
    · rcases List.mem_cons.1 h with rfl | h
      · exact ⟨p, List.mem_cons_self, .inr rfl⟩
      · obtain ⟨q, hq, he⟩ := es_mem h
        exact ⟨q, List.mem_cons_of_mem _ hq, he⟩
theorem es_incr : ∀ {l : List Iv}, Sep l → (es l).Pairwise (· < ·)
  | [], _ => List.Pairwise.nil
  | p :: l, h => by
    obtain ⟨h1, h2, h3⟩ := sep_cons.1 h
    have hgt : ∀ e ∈ es l, p.b < e := fun e he => by
      obtain ⟨q, hq, he⟩ := es_mem he
      have := h2 q hq
      have := h3.1 q hq
      rcases he with rfl | rfl <;> omega
    rw [es_cons, List.pairwise_cons, List.pairwise_cons]
    refine ⟨fun e he => ?_, hgt, es_incr h3⟩
    rcases List.mem_cons.1 he with rfl | he
    · exact h1
    · have := hgt e he; omega
theorem es_fin : ∀ l : List Iv, fin (es l) false = false
  | [] => rfl
  | p :: l => by rw [es_cons]; exact es_fin l
theorem inE_es : ∀ {l : List Iv}, Sep l → ∀ z, inE (es l) false z = true ↔ inX l z
  | [], _, z => ⟨fun h => (by cases h), fun h => absurd h (inX_nil z)⟩
  | p :: l, h, z => by
    obtain ⟨h1, h2, h3⟩ := sep_cons.1 h
    rw [es_cons, inX_cons]
    unfold inE
    split
    · rename_i hz
      refine ⟨fun h => (by cases h), fun h' => ?_⟩
      rcases h' with h' | h'
      · omega
      · have := inX_gt h h'; omega
    · unfold inE
      split
      · rename_i hz1 hz2
        exact ⟨fun _ => .inl ⟨by omega, hz2⟩, fun _ => rfl⟩
      · rename_i hz1 hz2
        rw [show (!!false) = false from rfl, inE_es h3 z]
        refine ⟨fun h' => .inr h', fun h' => ?_⟩
        rcases h' with h' | h'
        · omega
        · exact h'
theorem inE_low : ∀ {l : List Int} {p : Bool} {z : Int}, (∀ e ∈ l, z < e) → inE l p z = p
  | [], p, z, _ => rfl
  | x :: l, p, z, h => by unfold inE; rw [if_pos (h x List.mem_cons_self)]

/-- what has come of the edges ahead -/
def Spec (f : Bool → Bool → Bool) (y0 y1 : Int) (la : List Int) (p : Bool) (lb : List Int) (q : Bool) (lo : Int) (s out : St) : Prop :=
  ∃ ivs, out.made = s.made ++ rects y0 y1 ivs ∧ Sep ivs ∧ (∀ i ∈ ivs, (s.opn = true ∧ s.x0 ≤ i.a) ∨ lo < i.a) ∧
    ∀ z, inX ivs z ↔ ((z ≤ lo ∧ s.opn = true ∧ s.x0 ≤ z) ∨ (lo < z ∧ f (inE la p z) (inE lb q z) = true))

theorem spec_done {f : Bool → Bool → Bool} (hf : f false false = false) (y0 y1 lo : Int) (s : St) (ho : s.opn = f false false) : Spec f y0 y1 [] false [] false lo s s := by
  refine ⟨[], by simp [rects], sep_nil, fun i hi => (by cases hi), fun z => ⟨fun h => absurd h (inX_nil z), fun h => ?_⟩⟩
  rcases h with ⟨_, h, _⟩ | ⟨_, h⟩
  · rw [ho, hf] at h; cases h
  · simp only [inE, hf] at h; cases h

theorem spec_pass {f : Bool → Bool → Bool} {y0 y1 lo x : Int} {la lb la' lb' : List Int} {p q p' q' : Bool} {s out : St} (hx : lo < x) (ho : s.opn = f p q) (h0 : s.opn = true → s.x0 ≤ lo)
    (hlow : ∀ z, lo < z → z < x → inE la p z = p ∧ inE lb q z = q) (hhigh : ∀ z, x ≤ z → inE la p z = inE la' p' z ∧ inE lb q z = inE lb' q' z) (hat : inE la' p' x = p' ∧ inE lb' q' x = q')
    (h : Spec f y0 y1 la' p' lb' q' x (passS y0 y1 x (f p' q') s) out) : Spec f y0 y1 la p lb q lo s out := by
  obtain ⟨ivs, hm, hs, hst, hc⟩ := h
  have hhx := hhigh x (Int.le_refl _)
  have hfx : f (inE la p x) (inE lb q x) = f p' q' := by rw [hhx.1, hhx.2, hat.1, hat.2]
  by_cases ht : f p' q' = s.opn
  · have e : passS y0 y1 x (f p' q') s = s := by unfold passS; rw [if_pos ht]
    rw [e] at hm hst hc
    refine ⟨ivs, hm, hs, fun i hi => ?_, fun z => ?_⟩
    · rcases hst i hi with h | h
      · exact .inl h
      · exact .inr (by omega)
    · rw [hc z]
      rcases Int.lt_trichotomy z x with hz | hz | hz
      · by_cases hzl : z ≤ lo
        · constructor
          · rintro (⟨_, h⟩ | ⟨h, _⟩)
            · exact .inl ⟨hzl, h⟩
            · omega
          · rintro (⟨_, h⟩ | ⟨h, _⟩)
            · exact .inl ⟨by omega, h⟩
            · omega
        · have hl := hlow z (by omega) hz
          rw [hl.1, hl.2, ← ho]
          constructor
          · rintro (⟨_, h, _⟩ | ⟨h, _⟩)
            · exact .inr ⟨by omega, h⟩
            · omega
          · rintro (⟨h, _⟩ | ⟨_, h⟩)
            · omega
            · exact .inl ⟨by omega, h, by have := h0 h; omega⟩
      · subst hz
        rw [hfx, ht]
        constructor
        · rintro (⟨_, h, _⟩ | ⟨h, _⟩)
          · exact .inr ⟨hx, h⟩
          · omega
        · rintro (⟨h, _⟩ | ⟨_, h⟩)
          · omega
          · exact .inl ⟨Int.le_refl _, h, by have := h0 h; omega⟩
      · have hh := hhigh z (by omega)
        rw [hh.1, hh.2]
        constructor
        · rintro (⟨h, _⟩ | ⟨_, h⟩)
          · omega
          · exact .inr ⟨by omega, h⟩
        · rintro (⟨h, _⟩ | ⟨_, h⟩)
          · omega
          · exact .inr ⟨hz, h⟩
  · cases hop : s.opn with
    | true =>
      have hft : f p' q' = false := by rw [hop] at ht; simpa using ht
      have e : passS y0 y1 x (f p' q') s = ⟨s.made ++ [⟨s.x0, y0, x, y1⟩], false, x⟩ := by unfold passS; rw [if_neg ht, if_pos hop, hft]
      rw [e] at hm hst hc
      dsimp only at hm hst hc
      have hx0 := h0 hop
      refine ⟨⟨s.x0, x⟩ :: ivs, by rw [hm]; simp [rects], sep_cons.2 ⟨by dsimp only; omega, fun i hi => ?_, hs⟩, fun i hi => ?_, fun z => ?_⟩
      · rcases hst i hi with ⟨h, _⟩ | h
        · cases h
        · exact h
      · rcases List.mem_cons.1 hi with rfl | hi
        · exact .inl ⟨hop, Int.le_refl _⟩
        · rcases hst i hi with ⟨h, _⟩ | h
          · cases h
          · exact .inr (by omega)
      · rw [inX_cons, hc z]
        dsimp only
        rcases Int.lt_trichotomy z x with hz | hz | hz
        · by_cases hzl : z ≤ lo
          · constructor
            · rintro (⟨h, _⟩ | ⟨_, h, _⟩ | ⟨h, _⟩)
              · exact .inl ⟨hzl, hop, h⟩
              · cases h
              · omega
            · rintro (⟨_, _, h⟩ | ⟨h, _⟩)
              · exact .inl ⟨h, hz⟩
              · omega
          · have hl := hlow z (by omega) hz
            rw [hl.1, hl.2, ← ho, hop]
            constructor
            · intro _
              exact .inr ⟨by omega, rfl⟩
            · intro _
              exact .inl ⟨by omega, hz⟩
        · subst hz
          rw [hfx, hft]
          constructor
          · rintro (⟨_, h⟩ | ⟨_, h, _⟩ | ⟨h, _⟩)
            · omega
            · cases h
            · omega
          · rintro (⟨h, _⟩ | ⟨_, h⟩)
            · omega
            · cases h
        · have hh := hhigh z (by omega)
          rw [hh.1, hh.2]
          constructor
          · rintro (⟨_, h⟩ | ⟨h, _⟩ | ⟨_, h⟩)
            · omega
            · omega
            · exact .inr ⟨by omega, h⟩
          · rintro (⟨h, _⟩ | ⟨_, h⟩)
            · omega
            · exact .inr (.inr ⟨hz, h⟩)
    | false =>
      have hft : f p' q' = true := by rw [hop] at ht; simpa using ht
      have e : passS y0 y1 x (f p' q') s = ⟨s.made, true, x⟩ := by unfold passS; rw [if_neg ht, if_neg (by rw [hop]; simp), hft]
      rw [e] at hm hst hc
      dsimp only at hm hst hc
      refine ⟨ivs, hm, hs, fun i hi => ?_, fun z => ?_⟩
      · rcases hst i hi with ⟨_, h⟩ | h
        · exact .inr (by omega)
        · exact .inr (by omega)
      · rw [hc z]
        rcases Int.lt_trichotomy z x with hz | hz | hz
        · by_cases hzl : z ≤ lo
          · constructor
            · rintro (⟨_, _, h⟩ | ⟨h, _⟩)
              · omega
              · omega
            · rintro (⟨_, h, _⟩ | ⟨h, _⟩)
              · rw [hop] at h; cases h
              · omega
          · have hl := hlow z (by omega) hz
            rw [hl.1, hl.2, ← ho, hop]
            constructor
            · rintro (⟨_, _, h⟩ | ⟨h, _⟩)
              · omega
              · omega
            · rintro (⟨h, _⟩ | ⟨_, h⟩)
              · omega
              · cases h
        · subst hz
          rw [hfx, hft]
          constructor
          · intro _
            exact .inr ⟨hx, rfl⟩
          · intro _
            exact .inl ⟨Int.le_refl _, rfl, Int.le_refl _⟩
        · have hh := hhigh z (by omega)
          rw [hh.1, hh.2]
          constructor
          · rintro (⟨h, _⟩ | ⟨_, h⟩)
            · omega
            · exact .inr ⟨by omega, h⟩
          · rintro (⟨h, _⟩ | ⟨_, h⟩)
            · omega
            · exact .inr ⟨hz, h⟩

theorem pass_opn (y0 y1 x : Int) (t : Bool) (s : St) : (passS y0 y1 x t s).opn = t ∧ ((passS y0 y1 x t s).opn = true → (s.opn = true ∧ (passS y0 y1 x t s).x0 = s.x0) ∨ (passS y0 y1 x t s).x0 = x) := by
  unfold passS
  split
  · rename_i h; exact ⟨h.symm, fun h => .inl ⟨h, rfl⟩⟩
  · exact ⟨rfl, fun h => .inr rfl⟩
theorem pass_x0 {y0 y1 x lo : Int} {t : Bool} {s : St} (hx : lo < x) (h0 : s.opn = true → s.x0 ≤ lo) : (passS y0 y1 x t s).opn = true → (passS y0 y1 x t s).x0 ≤ x := by
  intro h
  rcases (pass_opn y0 y1 x t s).2 h with ⟨h1, h2⟩ | h2
  · have := h0 h1; omega
  · omega

theorem head_in {x z : Int} {l : List Int} {p : Bool} : (z < x → inE (x :: l) p z = p) ∧ (x ≤ z → inE (x :: l) p z = inE l (!p) z) := by
  constructor
  · intro h
    show (if z < x then p else inE l (!p) z) = p
    rw [if_pos h]
  · intro h
    show (if z < x then p else inE l (!p) z) = inE l (!p) z
    rw [if_neg (by omega)]

theorem tailA_spec {f : Bool → Bool → Bool} (hf : f false false = false) (y0 y1 : Int) : ∀ (la : List Int) (p : Bool) (s : St) (lo : Int), (∀ e ∈ la, lo < e) → la.Pairwise (· < ·) → fin la p = false → s.opn = f p false → (s.opn = true → s.x0 ≤ lo) → Spec f y0 y1 la p [] false lo s (tailA f y0 y1 la p s)
  | [], p, s, lo, _, _, hp, ho, _ => by
    have : p = false := hp
    subst this
    exact spec_done hf y0 y1 lo s ho
  | x :: l, p, s, lo, hl, hpw, hp, ho, h0 => by
    rw [List.pairwise_cons] at hpw
    have hx := hl x List.mem_cons_self
    refine spec_pass (la' := l) (p' := !p) (lb' := []) (q' := false) hx ho h0 (fun z _ hz => ⟨head_in.1 hz, rfl⟩) (fun z hz => ⟨head_in.2 hz, rfl⟩) ⟨inE_low hpw.1, rfl⟩ ?_
    exact tailA_spec hf y0 y1 l (!p) _ x hpw.1 hpw.2 hp (pass_opn _ _ _ _ _).1 (pass_x0 hx h0)
theorem tailB_spec {f : Bool → Bool → Bool} (hf : f false false = false) (y0 y1 : Int) : ∀ (lb : List Int) (q : Bool) (s : St) (lo : Int), (∀ e ∈ lb, lo < e) → lb.Pairwise (· < ·) → fin lb q = false → s.opn = f false q → (s.opn = true → s.x0 ≤ lo) → Spec f y0 y1 [] false lb q lo s (tailB f y0 y1 lb q s)
  | [], p, s, lo, _, _, hp, ho, _ => by
    have : p = false := hp
    subst this
    exact spec_done hf y0 y1 lo s ho
  | x :: l, p, s, lo, hl, hpw, hp, ho, h0 => by
    rw [List.pairwise_cons] at hpw
    have hx := hl x List.mem_cons_self
    refine spec_pass (la' := []) (p' := false) (lb' := l) (q' := !p) hx ho h0 (fun z _ hz => ⟨rfl, head_in.1 hz⟩) (fun z hz => ⟨rfl, head_in.2 hz⟩) ⟨rfl, inE_low hpw.1⟩ ?_
    exact tailB_spec hf y0 y1 l (!p) _ x hpw.1 hpw.2 hp (pass_opn _ _ _ _ _).1 (pass_x0 hx h0)

theorem merge_spec {f : Bool → Bool → Bool} (hf : f false false = false) (y0 y1 : Int) : ∀ (k : Nat) (la : List Int) (p : Bool) (lb : List Int) (q : Bool) (s : St) (lo : Int), la.length + lb.length < k → (∀ e ∈ la, lo < e) → (∀ e ∈ lb, lo < e) → la.Pairwise (· < ·) → lb.Pairwise (· < ·) →
    fin la p = false → fin lb q = false → s.opn = f p q → (s.opn = true → s.x0 ≤ lo) → Spec f y0 y1 la p lb q lo s (mergeS f y0 y1 k la p lb q s)
  | 0, la, p, lb, q, s, lo, hk, _, _, _, _, _, _, _, _ => absurd hk (Nat.not_lt_zero _)
  | k + 1, [], p, lb, q, s, lo, hk, _, hb, _, hpb, hp, hq, ho, h0 => by
    have : p = false := hp
    subst this
    cases lb with
    | nil => exact tailB_spec hf y0 y1 [] q s lo hb hpb hq ho h0
    | cons x l => exact tailB_spec hf y0 y1 (x :: l) q s lo hb hpb hq ho h0
  | k + 1, x :: l, p, [], q, s, lo, hk, ha, _, hpa, _, hp, hq, ho, h0 => by
    have : q = false := hq
    subst this
    exact tailA_spec hf y0 y1 (x :: l) p s lo ha hpa hp ho h0
  | k + 1, x :: l, p, z :: m, q, s, lo, hk, ha, hb, hpa, hpb, hp, hq, ho, h0 => by
    have hpa' := List.pairwise_cons.1 hpa
    have hpb' := List.pairwise_cons.1 hpb
    have hx := ha x List.mem_cons_self
    have hz := hb z List.mem_cons_self
    simp only [List.length_cons] at hk
    unfold mergeS
    split
    · rename_i hxz
      have hzm : ∀ e ∈ z :: m, x < e := fun e he => by
        rcases List.mem_cons.1 he with rfl | he
        · exact hxz
        · have := hpb'.1 e he; omega
      refine spec_pass (la' := l) (p' := !p) (lb' := z :: m) (q' := q) hx ho h0 (fun w _ hw => ⟨head_in.1 hw, head_in.1 (by omega)⟩) (fun w hw => ⟨head_in.2 hw, rfl⟩) ⟨inE_low hpa'.1, inE_low hzm⟩ ?_
      exact merge_spec hf y0 y1 k l (!p) (z :: m) q _ x (by simp only [List.length_cons]; omega) hpa'.1 hzm hpa'.2 hpb hp hq (pass_opn _ _ _ _ _).1 (pass_x0 hx h0)
    · split
      · rename_i hnx hxz
        have hxl : ∀ e ∈ x :: l, z < e := fun e he => by
          rcases List.mem_cons.1 he with rfl | he
          · exact hxz
          · have := hpa'.1 e he; omega
        refine spec_pass (la' := x :: l) (p' := p) (lb' := m) (q' := !q) hz ho h0 (fun w _ hw => ⟨head_in.1 (by omega), head_in.1 hw⟩) (fun w hw => ⟨rfl, head_in.2 hw⟩) ⟨inE_low hxl, inE_low hpb'.1⟩ ?_
        exact merge_spec hf y0 y1 k (x :: l) p m (!q) _ z (by simp only [List.length_cons]; omega) hxl hpb'.1 hpa hpb'.2 hp hq (pass_opn _ _ _ _ _).1 (pass_x0 hz h0)
      · rename_i h1 h2
        have e : x = z := by omega
        subst e
        refine spec_pass (la' := l) (p' := !p) (lb' := m) (q' := !q) hx ho h0 (fun w _ hw => ⟨head_in.1 hw, head_in.1 hw⟩) (fun w hw => ⟨head_in.2 hw, head_in.2 hw⟩) ⟨inE_low hpa'.1, inE_low hpb'.1⟩ ?_
        exact merge_spec hf y0 y1 k l (!p) m (!q) _ x (by omega) hpa'.1 hpb'.1 hpa'.2 hpb'.2 hp hq (pass_opn _ _ _ _ _).1 (pass_x0 hx h0)

theorem least : ∀ l : List Int, ∃ lo, ∀ e ∈ l, lo < e
  | [] => ⟨0, fun e h => (by cases h)⟩
  | x :: l => by
    obtain ⟨lo, h⟩ := least l
    refine ⟨min lo (x - 1), fun e he => ?_⟩
    rcases List.mem_cons.1 he with rfl | he
    · omega
    · have := h e he; omega

/-- what comes of two lists of stretches -/
theorem merge_all {f : Bool → Bool → Bool} (hf : f false false = false) (y0 y1 : Int) {A B : List Iv} (hA : Sep A) (hB : Sep B) (made : List R) (k : Nat) (hk : (es A).length + (es B).length < k) :
    ∃ ivs, (mergeS f y0 y1 k (es A) false (es B) false ⟨made, false, 0⟩).made = made ++ rects y0 y1 ivs ∧ Sep ivs ∧ ∀ z, inX ivs z ↔ f (inE (es A) false z) (inE (es B) false z) = true := by
  obtain ⟨lo, hlo⟩ := least (es A ++ es B)
  have ha : ∀ e ∈ es A, lo < e := fun e he => hlo e (List.mem_append_left _ he)
  have hb : ∀ e ∈ es B, lo < e := fun e he => hlo e (List.mem_append_right _ he)
  obtain ⟨ivs, h1, h2, -, h3⟩ := merge_spec hf y0 y1 k (es A) false (es B) false ⟨made, false, 0⟩ lo hk ha hb (es_incr hA) (es_incr hB) (es_fin A) (es_fin B) hf.symm (fun h => by cases h)
  refine ⟨ivs, h1, h2, fun z => ?_⟩
  rw [h3 z]
  constructor
  · rintro (⟨_, h, _⟩ | ⟨_, h⟩)
    · cases h
    · exact h
  · intro h
    refine .inr ⟨?_, h⟩
    by_cases hz : lo < z
    · exact hz
    · rw [inE_low (fun e he => by have := ha e he; omega), inE_low (fun e he => by have := hb e he; omega), hf] at h
      cases h

end Go.Proofs.Ytlakklpnajgjiaa.Num
