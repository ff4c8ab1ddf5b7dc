/- The document's rows of cells: bands come of them; and they are the same as what strips make. -/
import Derived.Test.YtlakklpnajgjiaaStrips
import Derived.Test.YtlakklpnajgjiaaRowNum
namespace Go.Proofs.Ytlakklpnajgjiaa.Num
set_option linter.unusedVariables false

theorem put_mem (l : List Int) (n e : Int) : e ∈ putL l n ↔ e = n ∨ e ∈ l := by
  unfold putL
  simp only [List.mem_append, List.mem_cons, List.mem_filter, decide_eq_true_eq]
  constructor
  · rintro (h | h | h)
    · exact .inr h.1
    · exact .inl h
    · exact .inr h.1
  · rintro (h | h)
    · exact .inr (.inl h)
    · rcases Int.lt_trichotomy e n with h1 | h1 | h1
      · exact .inl ⟨h, h1⟩
      · exact .inr (.inl h1)
      · exact .inr (.inr ⟨h, h1⟩)
theorem put_incr {l : List Int} (h : l.Pairwise (· < ·)) (n : Int) : (putL l n).Pairwise (· < ·) := by
  unfold putL
  rw [List.pairwise_append, List.pairwise_cons]
  refine ⟨h.filter _, ⟨fun e he => ?_, h.filter _⟩, fun a ha b hb => ?_⟩
  · exact of_decide_eq_true (List.mem_filter.1 he).2
  · have h1 := of_decide_eq_true (List.mem_filter.1 ha).2
    rcases List.mem_cons.1 hb with rfl | hb
    · exact h1
    · have h2 := of_decide_eq_true (List.mem_filter.1 hb).2
      omega

theorem xs_fold : ∀ (l : List R) (acc : List Int), acc.Pairwise (· < ·) → (l.foldl (fun xs r => if empB r = true then xs else putL (putL xs r.x0) r.x1) acc).Pairwise (· < ·) ∧
    (∀ e ∈ acc, e ∈ l.foldl (fun xs r => if empB r = true then xs else putL (putL xs r.x0) r.x1) acc) ∧ ∀ r ∈ l, empB r = false → r.x0 ∈ l.foldl (fun xs r => if empB r = true then xs else putL (putL xs r.x0) r.x1) acc ∧ r.x1 ∈ l.foldl (fun xs r => if empB r = true then xs else putL (putL xs r.x0) r.x1) acc
  | [], acc, h => ⟨h, fun e he => he, fun r hr => by cases hr⟩
  | s :: l, acc, h => by
    rw [List.foldl_cons]
    by_cases he : empB s = true
    · rw [if_pos he]
      obtain ⟨h1, h2, h3⟩ := xs_fold l acc h
      refine ⟨h1, h2, fun r hr hne => ?_⟩
      rcases List.mem_cons.1 hr with rfl | hr
      · rw [he] at hne; cases hne
      · exact h3 r hr hne
    · rw [if_neg he]
      obtain ⟨h1, h2, h3⟩ := xs_fold l _ (put_incr (put_incr h s.x0) s.x1)
      refine ⟨h1, fun e hm => h2 e ((put_mem _ _ _).2 (.inr ((put_mem _ _ _).2 (.inr hm)))), fun r hr hne => ?_⟩
      rcases List.mem_cons.1 hr with rfl | hr
      · exact ⟨h2 _ ((put_mem _ _ _).2 (.inr ((put_mem _ _ _).2 (.inl rfl)))), h2 _ ((put_mem _ _ _).2 (.inl rfl))⟩
      · exact h3 r hr hne
theorem ys_fold : ∀ (l : List R) (acc : List Int), acc.Pairwise (· < ·) → (l.foldl (fun xs r => if empB r = true then xs else putL (putL xs r.y0) r.y1) acc).Pairwise (· < ·) ∧
    (∀ e ∈ acc, e ∈ l.foldl (fun xs r => if empB r = true then xs else putL (putL xs r.y0) r.y1) acc) ∧ ∀ r ∈ l, empB r = false → r.y0 ∈ l.foldl (fun xs r => if empB r = true then xs else putL (putL xs r.y0) r.y1) acc ∧ r.y1 ∈ l.foldl (fun xs r => if empB r = true then xs else putL (putL xs r.y0) r.y1) acc
  | [], acc, h => ⟨h, fun e he => he, fun r hr => by cases hr⟩
  | s :: l, acc, h => by
    rw [List.foldl_cons]
    by_cases he : empB s = true
    · rw [if_pos he]
      obtain ⟨h1, h2, h3⟩ := ys_fold l acc h
      refine ⟨h1, h2, fun r hr hne => ?_⟩
      rcases List.mem_cons.1 hr with rfl | hr
      · rw [he] at hne; cases hne
      · exact h3 r hr hne
    · rw [if_neg he]
      obtain ⟨h1, h2, h3⟩ := ys_fold l _ (put_incr (put_incr h s.y0) s.y1)
      refine ⟨h1, fun e hm => h2 e ((put_mem _ _ _).2 (.inr ((put_mem _ _ _).2 (.inr hm)))), fun r hr hne => ?_⟩
      rcases List.mem_cons.1 hr with rfl | hr
      · exact ⟨h2 _ ((put_mem _ _ _).2 (.inr ((put_mem _ _ _).2 (.inl rfl)))), h2 _ ((put_mem _ _ _).2 (.inl rfl))⟩
      · exact h3 r hr hne

/-- the same from each place of the list up to the next, and nothing outside -/
def Piece (W : Int → Bool) : List Int → Prop
  | x :: x' :: t => (∀ z, x ≤ z → z < x' → W z = W x) ∧ Piece W (x' :: t)
  | [x] => ∀ z, x ≤ z → W z = false
  | [] => True

/-- no edge between: no change -/
theorem piece_of {W : Int → Bool} (P : Int → Prop) (hW : ∀ x z, x ≤ z → (∀ e, P e → e ≤ x ∨ z < e) → W z = W x) (hout : ∀ z, (∀ e, P e → e ≤ z) → W z = false) : ∀ (l : List Int), l.Pairwise (· < ·) → (∀ e, P e → e ∈ l ∨ ∀ x ∈ l, e < x) → Piece W l
  | [], _, _ => trivial
  | [x], hp, hm => fun z hz => hout z fun e he => by
    rcases hm e he with h | h
    · rw [List.mem_singleton] at h; omega
    · have := h x List.mem_cons_self; omega
  | x :: x' :: t, hp, hm => by
    have hp' := List.pairwise_cons.1 hp
    have hp2 := List.pairwise_cons.1 hp'.2
    refine ⟨fun z h1 h2 => hW x z h1 fun e he => ?_, piece_of P hW hout (x' :: t) hp'.2 fun e he => ?_⟩
    · rcases hm e he with h | h
      · rcases List.mem_cons.1 h with rfl | h
        · exact .inl (Int.le_refl _)
        · rcases List.mem_cons.1 h with rfl | h
          · exact .inr h2
          · have := hp2.1 e h; exact .inr (by omega)
      · have := h x List.mem_cons_self; exact .inl (by omega)
    · rcases hm e he with h | h
      · rcases List.mem_cons.1 h with rfl | h
        · exact .inr hp'.1
        · exact .inl h
      · exact .inr fun w hw => h w (List.mem_cons_of_mem _ hw)

theorem rects_append (y0 y1 : Int) (l m : List Iv) : rects y0 y1 (l ++ m) = rects y0 y1 l ++ rects y0 y1 m := by unfold rects; rw [List.map_append]
theorem snoc_or (l : List Iv) : l = [] ∨ ∃ m p, l = m ++ [p] := by
  rcases List.eq_nil_or_concat l with h | ⟨m, p, h⟩
  · exact .inl h
  · exact .inr ⟨m, p, by rw [h, List.concat_eq_append]⟩
theorem lastX1_snoc (y0 y1 : Int) (m : List Iv) (p : Iv) (x : Int) : lastX1 (rects y0 y1 (m ++ [p])) x = decide (p.b = x) ∧ ∀ x', setX1 (rects y0 y1 (m ++ [p])) x' = rects y0 y1 (m ++ [⟨p.a, x'⟩]) := by
  have e : rects y0 y1 (m ++ [p]) = rects y0 y1 m ++ [⟨p.a, y0, p.b, y1⟩] := by rw [rects_append]; rfl
  constructor
  · unfold lastX1
    rw [e, List.getLast?_concat]
  · intro x'
    unfold setX1
    rw [e, List.getLast?_concat]
    dsimp only
    rw [List.dropLast_concat, rects_append]
    rfl

theorem rowL_good {W : Int → Bool} {y0 y1 : Int} : ∀ (t : List Int) (x : Int) (ivs : List Iv), (x :: t).Pairwise (· < ·) → Piece W (x :: t) → Sep ivs → (∀ p ∈ ivs, p.b ≤ x) → (∀ z, inX ivs z ↔ z < x ∧ W z = true) →
    ∃ ivs', rowL W y0 y1 (x :: t) (rects y0 y1 ivs) = rects y0 y1 ivs' ∧ Sep ivs' ∧ ∀ z, inX ivs' z ↔ W z = true
  | [], x, ivs, _, hP, hs, hb, hin => by
    refine ⟨ivs, rfl, hs, fun z => ?_⟩
    rw [hin z]
    refine ⟨fun h => h.2, fun h => ⟨?_, h⟩⟩
    by_cases hz : z < x
    · exact hz
    · rw [hP z (by omega)] at h; cases h
  | x' :: t, x, ivs, hp, hP, hs, hb, hin => by
    have hp' := List.pairwise_cons.1 hp
    have hxx := hp'.1 x' List.mem_cons_self
    obtain ⟨hP1, hP2⟩ := hP
    have hmid : ∀ z, x ≤ z → z < x' → (W z = true ↔ W x = true) := fun z h1 h2 => by rw [hP1 z h1 h2]
    show ∃ ivs', rowL W y0 y1 (x' :: t) (if W x = true then (if lastX1 (rects y0 y1 ivs) x = true then setX1 (rects y0 y1 ivs) x' else rects y0 y1 ivs ++ [⟨x, y0, x', y1⟩]) else rects y0 y1 ivs) = _ ∧ _
    by_cases hw : W x = true
    · rw [if_pos hw]
      -- the cell is put behind, or the last stretch goes on
      have hfin : ∀ ivs2, Sep ivs2 → (∀ p ∈ ivs2, p.b ≤ x') → (∀ z, inX ivs2 z ↔ inX ivs z ∨ (x ≤ z ∧ z < x')) → ∃ ivs', rowL W y0 y1 (x' :: t) (rects y0 y1 ivs2) = rects y0 y1 ivs' ∧ Sep ivs' ∧ ∀ z, inX ivs' z ↔ W z = true := by
        intro ivs2 h1 h2 h3
        refine rowL_good t x' ivs2 hp'.2 hP2 h1 h2 fun z => ?_
        rw [h3 z, hin z]
        constructor
        · rintro (⟨a, b⟩ | ⟨a, b⟩)
          · exact ⟨by omega, b⟩
          · exact ⟨b, (hmid z a b).2 hw⟩
        · rintro ⟨a, b⟩
          by_cases hz : z < x
          · exact .inl ⟨hz, b⟩
          · exact .inr ⟨by omega, a⟩
      rcases snoc_or ivs with rfl | ⟨m, p, rfl⟩
      · have : lastX1 (rects y0 y1 []) x = false := rfl
        rw [this, if_neg (by simp)]
        refine hfin [⟨x, x'⟩] (sep_cons.2 ⟨hxx, fun q hq => (by cases hq), sep_nil⟩) (fun q hq => by rw [List.mem_singleton] at hq; subst hq; exact Int.le_refl _) fun z => ?_
        rw [inX_cons]
        exact ⟨fun h => h.elim .inr .inl, fun h => h.elim .inr .inl⟩
      · obtain ⟨e1, e2⟩ := lastX1_snoc y0 y1 m p x
        obtain ⟨s1, s2, s3⟩ := sep_snoc.1 hs
        have hpb := hb p (List.mem_append_right _ List.mem_cons_self)
        rw [e1]
        by_cases hpx : p.b = x
        · rw [decide_eq_true hpx, if_pos rfl, e2]
          refine hfin (m ++ [⟨p.a, x'⟩]) (sep_snoc.2 ⟨s1, by dsimp only; omega, s3⟩) (fun q hq => ?_) fun z => ?_
          · rcases List.mem_append.1 hq with hq | hq
            · have := hb q (List.mem_append_left _ hq); omega
            · rw [List.mem_singleton] at hq; subst hq; exact Int.le_refl _
          · rw [inX_append, inX_append, or_assoc]
            refine or_congr Iff.rfl ?_
            rw [inX_cons, inX_cons]
            dsimp only
            have hno : ¬ inX [] z := inX_nil z
            constructor
            · rintro (⟨a, b⟩ | h)
              · by_cases hz : z < x
                · exact .inl (.inl ⟨a, by omega⟩)
                · exact .inr ⟨by omega, b⟩
              · exact absurd h hno
            · rintro ((⟨a, b⟩ | h) | ⟨a, b⟩)
              · exact .inl ⟨a, by omega⟩
              · exact absurd h hno
              · exact .inl ⟨by omega, b⟩
        · rw [decide_eq_false hpx, if_neg (by simp)]
          have e3 : rects y0 y1 (m ++ [p]) ++ [⟨x, y0, x', y1⟩] = rects y0 y1 (m ++ [p] ++ [⟨x, x'⟩]) := by rw [rects_append _ _ (m ++ [p])]; rfl
          rw [e3]
          refine hfin (m ++ [p] ++ [⟨x, x'⟩]) (sep_snoc.2 ⟨hs, hxx, fun q hq => ?_⟩) (fun q hq => ?_) fun z => ?_
          · rcases List.mem_append.1 hq with hq | hq
            · have h1 := s3 q hq
              show q.b < x
              omega
            · rw [List.mem_singleton] at hq
              subst hq
              show q.b < x
              omega
          · rcases List.mem_append.1 hq with hq | hq
            · have := hb q hq; omega
            · rw [List.mem_singleton] at hq; subst hq; exact Int.le_refl _
          · rw [inX_append (l := m ++ [p]), inX_cons]
            exact or_congr Iff.rfl ⟨fun h => h.elim id fun h => absurd h (inX_nil z), .inl⟩
    · rw [if_neg hw]
      refine rowL_good t x' ivs hp'.2 hP2 hs (fun p hp => by have := hb p hp; omega) fun z => ?_
      rw [hin z]
      constructor
      · rintro ⟨a, b⟩; exact ⟨by omega, b⟩
      · rintro ⟨a, b⟩
        by_cases hz : z < x
        · exact ⟨hz, b⟩
        · exact absurd ((hmid z (by omega) a).1 b) hw

/-- a whole row -/
theorem row_all {W : Int → Bool} (y0 y1 : Int) {xs : List Int} (hp : xs.Pairwise (· < ·)) (hP : Piece W xs) (hlow : ∀ z, (∀ x ∈ xs, z < x) → W z = false) : ∃ ivs, rowL W y0 y1 xs [] = rects y0 y1 ivs ∧ Sep ivs ∧ ∀ z, inX ivs z ↔ W z = true := by
  cases xs with
  | nil => exact ⟨[], rfl, sep_nil, fun z => ⟨fun h => absurd h (inX_nil z), fun h => by rw [hlow z (fun x hx => by cases hx)] at h; cases h⟩⟩
  | cons x t =>
    refine rowL_good (W := W) (y0 := y0) (y1 := y1) t x [] hp hP sep_nil (fun p hp => by cases hp) fun z => ⟨fun h => absurd h (inX_nil z), fun h => ?_⟩
    rw [hlow z fun w hw => ?_] at h
    · cases h.2
    · rcases List.mem_cons.1 hw with rfl | hw
      · exact h.1
      · have := (List.pairwise_cons.1 hp).1 w hw; omega

theorem same_rects (y0 y1 y n : Int) : ∀ {l m : List Iv}, l ≠ [] → (sameRow y (rects y0 y1 l) (rects y n m) = true ↔ y1 = y ∧ l = m)
  | p :: l, [], _ => by
    refine ⟨fun h => ?_, fun h => ?_⟩
    · have : sameRow y (rects y0 y1 (p :: l)) (rects y n []) = false := rfl
      rw [this] at h; cases h
    · cases h.2
  | p :: l, q :: m, _ => by
    have e : sameRow y (rects y0 y1 (p :: l)) (rects y n (q :: m)) = if p.a = q.a ∧ p.b = q.b ∧ y1 = y then sameRow y (rects y0 y1 l) (rects y n m) else false := rfl
    rw [e]
    split
    · rename_i h
      have hpq : p = q := by cases p; cases q; simp_all
      subst hpq
      cases l with
      | nil =>
        cases m with
        | nil => exact ⟨fun _ => ⟨h.2.2, rfl⟩, fun _ => rfl⟩
        | cons r m => exact ⟨fun h => (by cases h), fun h => (by cases h.2)⟩
      | cons r l =>
        rw [same_rects y0 y1 y n (by simp)]
        constructor
        · rintro ⟨a, b⟩; exact ⟨a, by rw [b]⟩
        · rintro ⟨a, b⟩; exact ⟨a, by injection b⟩
    · rename_i h
      refine ⟨fun h => (by cases h), fun h' => ?_⟩
      obtain ⟨a, b⟩ := h'
      injection b with b1 b2
      exact absurd ⟨by rw [b1], by rw [b1], a⟩ h

theorem put_good {bs : List Bd} {y n : Int} {ivs : List Iv} (hy : y < n) (hg : Good bs) (hb : ∀ b ∈ bs, b.y1 ≤ y) (he : ivs ≠ []) (hs : Sep ivs) (hno : ∀ b ∈ bs, b.y1 = y → b.xs ≠ ivs) :
    Good (bs ++ [⟨y, n, ivs⟩]) ∧ (∀ b ∈ bs ++ [⟨y, n, ivs⟩], b.y1 ≤ n) ∧ ∀ x z, inBs (bs ++ [⟨y, n, ivs⟩]) x z ↔ inBs bs x z ∨ ((y ≤ z ∧ z < n) ∧ inX ivs x) := by
  refine ⟨good_snoc.2 ⟨hg, ⟨hy, he, hs⟩, fun q hq => ⟨hb q hq, fun e => hno q hq e⟩⟩, fun b h => ?_, fun x z => ?_⟩
  · rcases List.mem_append.1 h with h | h
    · have := hb b h; omega
    · rw [List.mem_singleton] at h; subst h; exact Int.le_refl _
  · rw [inBs_append]
    refine or_congr Iff.rfl ⟨fun ⟨c, hc, h⟩ => ?_, fun h => ⟨_, List.mem_singleton.2 rfl, h⟩⟩
    rw [List.mem_singleton] at hc
    subst hc
    exact h
theorem grow_good {init : List Bd} {b : Bd} {y n : Int} (hy : y < n) (hg : Good (init ++ [b])) (hb : ∀ c ∈ init ++ [b], c.y1 ≤ y) (e1 : b.y1 = y) :
    Good (init ++ [⟨b.y0, n, b.xs⟩]) ∧ (∀ c ∈ init ++ [⟨b.y0, n, b.xs⟩], c.y1 ≤ n) ∧ ∀ x z, inBs (init ++ [⟨b.y0, n, b.xs⟩]) x z ↔ inBs (init ++ [b]) x z ∨ ((y ≤ z ∧ z < n) ∧ inX b.xs x) := by
  obtain ⟨g1, g2, g3⟩ := good_snoc.1 hg
  have hb0 := g2.1
  refine ⟨good_snoc.2 ⟨g1, ⟨by dsimp only; omega, g2.2⟩, g3⟩, fun c h => ?_, fun x z => ?_⟩
  · rcases List.mem_append.1 h with h | h
    · have := hb c (List.mem_append_left _ h); omega
    · rw [List.mem_singleton] at h; subst h; exact Int.le_refl _
  · rw [inBs_append, inBs_append, or_assoc]
    refine or_congr Iff.rfl ?_
    constructor
    · rintro ⟨c, hc, h⟩
      rw [List.mem_singleton] at hc
      subst hc
      obtain ⟨⟨h1, h2⟩, h3⟩ := h
      dsimp only at h1 h2 h3
      by_cases hz : z < y
      · exact .inl ⟨b, List.mem_singleton.2 rfl, ⟨h1, by omega⟩, h3⟩
      · exact .inr ⟨⟨by omega, h2⟩, h3⟩
    · rintro (⟨c, hc, h⟩ | ⟨⟨h1, h2⟩, h3⟩)
      · rw [List.mem_singleton] at hc
        subst hc
        obtain ⟨⟨h1, h2⟩, h3⟩ := h
        exact ⟨_, List.mem_singleton.2 rfl, ⟨by dsimp only; omega, by dsimp only; omega⟩, h3⟩
      · exact ⟨_, List.mem_singleton.2 rfl, ⟨by dsimp only; omega, h2⟩, h3⟩

/-- where the document's last band begins -/
def LastR (bs : List Bd) (last : Nat) (y : Int) : Prop := (last = (flats bs).length ∧ ∀ b ∈ bs, b.y1 < y) ∨ ∃ init b, bs = init ++ [b] ∧ last = (flats init).length ∧ b.y1 = y

theorem rowsL_good {want : Int → Int → Bool} {xs : List Int} (hrow : ∀ y y0 y1, ∃ ivs, rowL (fun x => want x y) y0 y1 xs [] = rects y0 y1 ivs ∧ Sep ivs ∧ ∀ z, inX ivs z ↔ want z y = true) :
    ∀ (t : List Int) (y : Int) (bs : List Bd) (last : Nat), (y :: t).Pairwise (· < ·) → (∀ x, Piece (fun y => want x y) (y :: t)) → Good bs → (∀ b ∈ bs, b.y1 ≤ y) → LastR bs last y → (∀ x z, inBs bs x z ↔ z < y ∧ want x z = true) →
    ∃ out, rowsL want xs (y :: t) (flats bs) last = flats out ∧ Good out ∧ ∀ x z, inBs out x z ↔ want x z = true
  | [], y, bs, last, _, hP, hg, _, _, hin => by
    refine ⟨bs, rfl, hg, fun x z => ?_⟩
    rw [hin x z]
    refine ⟨fun h => h.2, fun h => ⟨?_, h⟩⟩
    by_cases hz : z < y
    · exact hz
    · have : want x z = false := hP x z (by omega)
      rw [this] at h; cases h
  | y' :: t, y, bs, last, hp, hP, hg, hle, hL, hin => by
    have hp' := List.pairwise_cons.1 hp
    have hyy := hp'.1 y' List.mem_cons_self
    have hmid : ∀ x z, y ≤ z → z < y' → want x z = want x y := fun x z h1 h2 => (hP x).1 z h1 h2
    obtain ⟨ivs, r1, r2, r3⟩ := hrow y y y'
    show ∃ out, (if rowL (fun x => want x y) y y' xs [] ≠ [] ∧ sameRow y ((flats bs).drop last) (rowL (fun x => want x y) y y' xs []) = true then rowsL want xs (y' :: t) ((flats bs).take last ++ ((flats bs).drop last).map (fun r => ⟨r.x0, r.y0, r.x1, y'⟩)) last else rowsL want xs (y' :: t) (flats bs ++ rowL (fun x => want x y) y y' xs []) (flats bs).length) = flats out ∧ _
    rw [r1]
    -- what follows, once the row has come
    have hfin : ∀ bs' last', Good bs' → (∀ b ∈ bs', b.y1 ≤ y') → LastR bs' last' y' → (∀ x z, inBs bs' x z ↔ inBs bs x z ∨ ((y ≤ z ∧ z < y') ∧ inX ivs x)) → ∃ out, rowsL want xs (y' :: t) (flats bs') last' = flats out ∧ Good out ∧ ∀ x z, inBs out x z ↔ want x z = true := by
      intro bs' last' h1 h2 h3 h4
      refine rowsL_good hrow t y' bs' last' hp'.2 (fun x => (hP x).2) h1 h2 h3 fun x z => ?_
      rw [h4 x z, hin x z, r3 x]
      constructor
      · rintro (⟨a, b⟩ | ⟨⟨a, b⟩, c⟩)
        · exact ⟨by omega, b⟩
        · exact ⟨b, by rw [hmid x z a b]; exact c⟩
      · rintro ⟨a, b⟩
        by_cases hz : z < y
        · exact .inl ⟨hz, b⟩
        · exact .inr ⟨⟨by omega, a⟩, by rw [← hmid x z (by omega) a]; exact b⟩
    by_cases he : ivs = []
    · subst he
      rw [if_neg (fun h => h.1 rfl)]
      have : flats bs ++ rects y y' [] = flats bs := by simp [rects]
      rw [this]
      refine hfin bs _ hg (fun b h => by have := hle b h; omega) (.inl ⟨rfl, fun b h => by have := hle b h; omega⟩) fun x z => ⟨.inl, fun h => ?_⟩
      rcases h with h | ⟨-, h⟩
      · exact h
      · exact absurd h (inX_nil x)
    · have hne : rects y y' ivs ≠ [] := fun e => he (by simpa [rects] using e)
      -- the row is put behind
      have hput : (∀ b ∈ bs, b.y1 = y → b.xs ≠ ivs) → ∃ out, rowsL want xs (y' :: t) (flats bs ++ rects y y' ivs) (flats bs).length = flats out ∧ Good out ∧ ∀ x z, inBs out x z ↔ want x z = true := by
        intro hno
        obtain ⟨p1, p2, p3⟩ := put_good hyy hg hle he r2 hno
        have e : flats bs ++ rects y y' ivs = flats (bs ++ [⟨y, y', ivs⟩]) := by rw [flats_append, flats_one]; rfl
        rw [e]
        exact hfin _ _ p1 p2 (.inr ⟨bs, _, rfl, rfl, rfl⟩) p3
      rcases hL with ⟨rfl, hlt⟩ | ⟨init, b, rfl, rfl, hby⟩
      · have hs : sameRow y ((flats bs).drop (flats bs).length) (rects y y' ivs) = false := by
          rw [List.drop_length]
          cases ivs with
          | nil => exact absurd rfl he
          | cons p l => rfl
        rw [if_neg (fun h => by rw [hs] at h; cases h.2)]
        exact hput fun b hb e => by have := hlt b hb; omega
      · obtain ⟨g1, g2, g3⟩ := good_snoc.1 hg
        have hdrop : (flats (init ++ [b])).drop (flats init).length = flatB b := by rw [flats_append, flats_one, List.drop_left]
        have htake : (flats (init ++ [b])).take (flats init).length = flats init := by rw [flats_append, List.take_left]
        have hsI : sameRow y (flatB b) (rects y y' ivs) = true ↔ b.y1 = y ∧ b.xs = ivs := same_rects b.y0 b.y1 y y' g2.2.1
        rw [hdrop, htake]
        by_cases hsame : b.xs = ivs
        · rw [if_pos ⟨hne, hsI.2 ⟨hby, hsame⟩⟩]
          obtain ⟨p1, p2, p3⟩ := grow_good hyy hg hle hby
          have e : flats init ++ (flatB b).map (fun r => ⟨r.x0, r.y0, r.x1, y'⟩) = flats (init ++ [⟨b.y0, y', b.xs⟩]) := by
            rw [flats_append, flats_one]
            congr 1
            simp only [flatB, rects, List.map_map]
            rfl
          rw [e]
          refine hfin _ _ p1 p2 (.inr ⟨init, _, rfl, rfl, rfl⟩) fun x z => ?_
          rw [p3 x z, hsame]
        · rw [if_neg (fun h => hsame (hsI.1 h.2).2)]
          refine hput fun c hc e => ?_
          rcases List.mem_append.1 hc with hc | hc
          · have h1 := (g3 c hc).1
            have h2 := g2.1
            omega
          · rw [List.mem_singleton] at hc
            subst hc
            exact hsame

theorem has_empty {r : R} (h : empB r = true) (x y : Int) : hasB r x y = false := by
  have := of_emp h
  unfold hasB
  exact decide_eq_false (by omega)
theorem any_congr {l : List R} {p q : R → Bool} (h : ∀ r ∈ l, p r = q r) : l.any p = l.any q := by
  induction l with
  | nil => rfl
  | cons r l ih => rw [List.any_cons, List.any_cons, h r List.mem_cons_self, ih fun s hs => h s (List.mem_cons_of_mem _ hs)]

/-- the document's region is one in bands, of the points that are wanted -/
theorem sets_good {f : Bool → Bool → Bool} (hf : f false false = false) (a b : List R) : ∃ out, setsL f a b = flats out ∧ Good out ∧ ∀ x z, inBs out x z ↔ wantL f a b x z = true := by
  obtain ⟨x1, -, x3⟩ := xs_fold (a ++ b) [] List.Pairwise.nil
  obtain ⟨y1, -, y3⟩ := ys_fold (a ++ b) [] List.Pairwise.nil
  -- how the points of a list hang on the edges
  have hx : ∀ (l : List R), (∀ r ∈ l, r ∈ a ++ b) → ∀ x z y, x ≤ z → (∀ e, e ∈ xsOf (a ++ b) → e ≤ x ∨ z < e) → hasL l z y = hasL l x y := by
    intro l hl x z y hxz he
    refine any_congr fun r hr => ?_
    by_cases hem : empB r = true
    · rw [has_empty hem, has_empty hem]
    · have h3 := x3 r (hl r hr) (by simpa using hem)
      have e0 := he r.x0 h3.1
      have e1 := he r.x1 h3.2
      unfold hasB
      exact decide_eq_decide.2 (by omega)
  have hy : ∀ (l : List R), (∀ r ∈ l, r ∈ a ++ b) → ∀ x y z, y ≤ z → (∀ e, e ∈ ysOf (a ++ b) → e ≤ y ∨ z < e) → hasL l x z = hasL l x y := by
    intro l hl x y z hyz he
    refine any_congr fun r hr => ?_
    by_cases hem : empB r = true
    · rw [has_empty hem, has_empty hem]
    · have h3 := y3 r (hl r hr) (by simpa using hem)
      have e0 := he r.y0 h3.1
      have e1 := he r.y1 h3.2
      unfold hasB
      exact decide_eq_decide.2 (by omega)
  have hno : ∀ (l : List R), (∀ r ∈ l, r ∈ a ++ b) → ∀ x z, ((∀ e ∈ xsOf (a ++ b), e ≤ x) ∨ (∀ e ∈ xsOf (a ++ b), x < e) ∨ (∀ e ∈ ysOf (a ++ b), e ≤ z) ∨ (∀ e ∈ ysOf (a ++ b), z < e)) → hasL l x z = false := by
    intro l hl x z he
    unfold hasL
    rw [Bool.eq_false_iff]
    intro h
    obtain ⟨r, hr, h⟩ := List.any_eq_true.1 h
    by_cases hem : empB r = true
    · rw [has_empty hem] at h; cases h
    · have h3 := x3 r (hl r hr) (by simpa using hem)
      have h4 := y3 r (hl r hr) (by simpa using hem)
      have := of_decide_eq_true h
      rcases he with he | he | he | he
      · have := he _ h3.2; omega
      · have := he _ h3.1; omega
      · have := he _ h4.2; omega
      · have := he _ h4.1; omega
  have ha : ∀ r ∈ a, r ∈ a ++ b := fun r hr => List.mem_append_left _ hr
  have hb : ∀ r ∈ b, r ∈ a ++ b := fun r hr => List.mem_append_right _ hr
  have wx : ∀ x z y, x ≤ z → (∀ e, e ∈ xsOf (a ++ b) → e ≤ x ∨ z < e) → wantL f a b z y = wantL f a b x y := fun x z y h1 h2 => by unfold wantL; rw [hx a ha x z y h1 h2, hx b hb x z y h1 h2]
  have wy : ∀ x y z, y ≤ z → (∀ e, e ∈ ysOf (a ++ b) → e ≤ y ∨ z < e) → wantL f a b x z = wantL f a b x y := fun x y z h1 h2 => by unfold wantL; rw [hy a ha x y z h1 h2, hy b hb x y z h1 h2]
  have wno : ∀ x z, ((∀ e ∈ xsOf (a ++ b), e ≤ x) ∨ (∀ e ∈ xsOf (a ++ b), x < e) ∨ (∀ e ∈ ysOf (a ++ b), e ≤ z) ∨ (∀ e ∈ ysOf (a ++ b), z < e)) → wantL f a b x z = false := fun x z h => by unfold wantL; rw [hno a ha x z h, hno b hb x z h, hf]
  have hrow : ∀ y y0 y1, ∃ ivs, rowL (fun x => wantL f a b x y) y0 y1 (xsOf (a ++ b)) [] = rects y0 y1 ivs ∧ Sep ivs ∧ ∀ z, inX ivs z ↔ wantL f a b z y = true := by
    intro y y0 y1
    exact row_all (W := fun x => wantL f a b x y) y0 y1 x1 (piece_of (fun e => e ∈ xsOf (a ++ b)) (fun x z h1 h2 => wx x z y h1 h2) (fun z h => wno z y (.inl h)) _ x1 (fun e he => .inl he)) (fun z h => wno z y (.inr (.inl h)))
  unfold setsL
  cases hys : ysOf (a ++ b) with
  | nil =>
    refine ⟨[], rfl, good_nil, fun x z => ⟨fun h => absurd h (inBs_nil x z), fun h => ?_⟩⟩
    rw [wno x z (.inr (.inr (.inl (fun e he => by rw [hys] at he; cases he))))] at h
    cases h
  | cons y t =>
    have y1' : (y :: t).Pairwise (· < ·) := by rw [← hys]; exact y1
    refine rowsL_good hrow t y [] 0 y1' (fun x => ?_) good_nil (fun b h => by cases h) (.inl ⟨rfl, fun b h => by cases h⟩) (fun x z => ⟨fun h => absurd h (inBs_nil x z), fun h => ?_⟩)
    · rw [← hys]
      exact piece_of (fun e => e ∈ ysOf (a ++ b)) (fun y z h1 h2 => wy x y z h1 h2) (fun z h => wno x z (.inr (.inr (.inl h)))) _ y1 (fun e he => .inl he)
    · rw [wno x z (.inr (.inr (.inr (fun e he => ?_))))] at h
      · cases h.2
      · rw [hys] at he
        rcases List.mem_cons.1 he with rfl | he
        · exact h.1
        · have := (List.pairwise_cons.1 y1').1 e he; omega

end Go.Proofs.Ytlakklpnajgjiaa.Num
