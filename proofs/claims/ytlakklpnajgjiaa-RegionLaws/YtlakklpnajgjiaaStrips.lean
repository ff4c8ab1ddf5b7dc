/- Two regions put together strip by strip: bands come of it. -/
import Derived.Test.YtlakklpnajgjiaaLine
namespace Go.Proofs.Ytlakklpnajgjiaa.Num
set_option linter.unusedVariables false

theorem flatB_head {b : Bd} (h : OkB b) : ∃ r t, flatB b = r :: t ∧ r.y0 = b.y0 ∧ r.y1 = b.y1 ∧ ∀ s ∈ t, s.y0 = b.y0 := by
  obtain ⟨-, hn, -⟩ := h
  cases hx : b.xs with
  | nil => exact absurd hx hn
  | cons p l =>
    refine ⟨⟨p.a, b.y0, p.b, b.y1⟩, rects b.y0 b.y1 l, by simp [flatB, rects, hx], rfl, rfl, fun s hs => ?_⟩
    simp only [rects, List.mem_map] at hs
    obtain ⟨q, -, rfl⟩ := hs
    rfl
theorem flats_y0 : ∀ {l : List Bd} {s : R}, s ∈ flats l → ∃ b ∈ l, s.y0 = b.y0
  | b :: l, s, h => by
    rw [flats_cons] at h
    rcases List.mem_append.1 h with h | h
    · simp only [flatB, rects, List.mem_map] at h
      obtain ⟨q, -, rfl⟩ := h
      exact ⟨b, List.mem_cons_self, rfl⟩
    · obtain ⟨c, hc, e⟩ := flats_y0 h
      exact ⟨c, List.mem_cons_of_mem _ hc, e⟩
theorem takeWhile_split {p : R → Bool} : ∀ {l m : List R}, (∀ s ∈ l, p s = true) → (∀ s ∈ m, p s = false) → (l ++ m).takeWhile p = l
  | [], [], _, _ => rfl
  | [], s :: m, _, h => by
    have := h s List.mem_cons_self
    simp [this]
  | s :: l, m, h1, h2 => by
    have := h1 s List.mem_cons_self
    rw [List.cons_append, List.takeWhile_cons, this, if_pos rfl, takeWhile_split (fun t ht => h1 t (List.mem_cons_of_mem _ ht)) h2]
theorem first_flats {b : Bd} {t : List Bd} (h : Good (b :: t)) : firstL (flats (b :: t)) = flatB b := by
  obtain ⟨h1, h2, h3⟩ := good_cons.1 h
  obtain ⟨r, l, e, hr0, -, hl⟩ := flatB_head h1
  rw [flats_cons, e, List.cons_append]
  simp only [firstL]
  rw [takeWhile_split (fun s hs => by simp [hl s hs, hr0]) (fun s hs => by
    obtain ⟨c, hc, e⟩ := flats_y0 hs
    have := (h2 c hc).1
    have := h1.1
    simp only [decide_eq_false_iff_not]
    omega)]
theorem flats_head {b : Bd} {t : List Bd} (h : Good (b :: t)) : ∃ r l, flats (b :: t) = r :: l ∧ r.y0 = b.y0 ∧ r.y1 = b.y1 := by
  obtain ⟨h1, -, -⟩ := good_cons.1 h
  obtain ⟨r, l, e, hr0, hr1, -⟩ := flatB_head h1
  exact ⟨r, l ++ flats t, by rw [flats_cons, e, List.cons_append], hr0, hr1⟩
theorem flats_eq_nil {l : List Bd} (h : Good l) : flats l = [] ↔ l = [] := by
  cases l with
  | nil => exact ⟨fun _ => rfl, fun _ => rfl⟩
  | cons b t =>
    obtain ⟨r, m, e, -⟩ := flats_head h
    rw [e]
    exact ⟨fun h => (by cases h), fun h => (by cases h)⟩

/-- the stretches of the row at y -/
def rowIv (A : List Bd) (y : Int) : List Iv := match A with
  | [] => []
  | b :: t => if y < b.y0 then [] else b.xs
def nextB (A : List Bd) (y : Int) : Int := match A with
  | [] => 9223372036854775807
  | b :: t => if y < b.y0 then b.y0 else b.y1
def downB (A : List Bd) (y : Int) : List Bd := match A with
  | [] => []
  | b :: t => if y < b.y1 then b :: t else t
def live (A : List Bd) (y : Int) : Prop := match A with
  | [] => True
  | b :: t => y < b.y1
def mu (A : List Bd) (y : Int) : Nat := match A with
  | [] => 0
  | b :: t => 2 * t.length + (if y < b.y0 then 2 else 1)
def Bounded (A : List Bd) : Prop := ∀ b ∈ A, -9223372036854775808 < b.y0 ∧ b.y1 < 9223372036854775807

theorem band_flats {A : List Bd} (h : Good A) (y : Int) : edges (bandL (flats A) y) = es (rowIv A y) ∧ Sep (rowIv A y) ∧ nextE (flats A) y = nextB A y ∧ belowL (flats A) y = flats (downB A y) := by
  cases A with
  | nil => exact ⟨rfl, sep_nil, rfl, rfl⟩
  | cons b t =>
    obtain ⟨r, l, e, hr0, hr1⟩ := flats_head h
    have hf := first_flats h
    have h1 := (good_cons.1 h).1
    refine ⟨?_, ?_, ?_, ?_⟩
    · have : bandL (flats (b :: t)) y = if y < b.y0 then [] else flatB b := by
        rw [← hf, e]
        unfold bandL
        dsimp only
        rw [hr0]
      rw [this]
      unfold rowIv
      dsimp only
      split
      · rfl
      · exact edges_rects _ _ _
    · unfold rowIv
      dsimp only
      split
      · exact sep_nil
      · exact h1.2.2
    · rw [e]
      unfold nextE nextB
      dsimp only
      rw [hr0, hr1]
    · have : belowL (flats (b :: t)) y = if y < b.y1 then flats (b :: t) else (flats (b :: t)).drop (flatB b).length := by
        rw [← hf, e]
        unfold belowL
        dsimp only
        rw [hr1]
      rw [this]
      unfold downB
      dsimp only
      split
      · rfl
      · rw [flats_cons, List.drop_left]

theorem down_good {A : List Bd} (h : Good A) (y : Int) : Good (downB A y) := by
  cases A with
  | nil => exact h
  | cons b t =>
    unfold downB
    dsimp only
    split
    · exact h
    · exact (good_cons.1 h).2.2
theorem down_bounded {A : List Bd} (h : Bounded A) (y : Int) : Bounded (downB A y) := by
  cases A with
  | nil => exact h
  | cons b t =>
    unfold downB
    dsimp only
    split
    · exact h
    · exact fun c hc => h c (List.mem_cons_of_mem _ hc)
theorem next_gt {A : List Bd} {y : Int} (hl : live A y) (hy : y < 9223372036854775807) : y < nextB A y := by
  cases A with
  | nil => exact hy
  | cons b t =>
    unfold nextB
    dsimp only
    split
    · assumption
    · exact hl
theorem down_live {A : List Bd} (h : Good A) {y n : Int} (hl : live A y) (hn : n ≤ nextB A y) : live (downB A n) n := by
  cases A with
  | nil => trivial
  | cons b t =>
    obtain ⟨h1, h2, h3⟩ := good_cons.1 h
    unfold downB
    dsimp only
    split
    · assumption
    · rename_i hb
      cases t with
      | nil => trivial
      | cons c t =>
        have hc := (h2 c List.mem_cons_self).1
        have hc' := ((good_cons.1 h3).1).1
        unfold nextB at hn
        dsimp only at hn
        show n < c.y1
        have := h1.1
        split at hn <;> omega
theorem mu_le {A : List Bd} (h : Good A) {y n : Int} (hl : live A y) (hy : y < n) (hn : n ≤ nextB A y) : mu (downB A n) n ≤ mu A y ∧ (n = nextB A y → A ≠ [] → mu (downB A n) n < mu A y) := by
  cases A with
  | nil => exact ⟨Nat.le_refl _, fun _ h => absurd rfl h⟩
  | cons b t =>
    have h1 := (good_cons.1 h).1.1
    have hl' : y < b.y1 := hl
    have ht : mu t n ≤ 2 * t.length := by
      cases t with
      | nil => exact Nat.le_refl _
      | cons c t =>
        unfold mu
        simp only [List.length_cons]
        split <;> omega
    unfold nextB at hn
    dsimp only at hn
    unfold nextB downB
    dsimp only
    by_cases hyb : y < b.y0
    · rw [if_pos hyb] at hn ⊢
      rw [if_pos (by omega)]
      unfold mu
      dsimp only
      rw [if_pos hyb]
      split <;> omega
    · rw [if_neg hyb] at hn ⊢
      have hmu : mu (b :: t) y = 2 * t.length + 1 := by unfold mu; dsimp only; rw [if_neg hyb]
      rw [hmu]
      by_cases hnb : n < b.y1
      · rw [if_pos hnb]
        have hmn : mu (b :: t) n = 2 * t.length + 1 := by unfold mu; dsimp only; rw [if_neg (by omega)]
        rw [hmn]
        omega
      · rw [if_neg hnb]
        omega
theorem row_in {A : List Bd} (h : Good A) {y n z x : Int} (hl : live A y) (hn : n ≤ nextB A y) (hz : y ≤ z) (hz' : z < n) : inBs A x z ↔ inX (rowIv A y) x := by
  cases A with
  | nil => exact ⟨fun h => absurd h (inBs_nil _ _), fun h => absurd h (inX_nil _)⟩
  | cons b t =>
    obtain ⟨h1, h2, h3⟩ := good_cons.1 h
    unfold nextB at hn
    dsimp only at hn
    unfold rowIv
    dsimp only
    by_cases hyb : y < b.y0
    · rw [if_pos hyb] at hn ⊢
      refine ⟨fun hh => ?_, fun h => absurd h (inX_nil _)⟩
      have := inBs_ge h hh
      omega
    · rw [if_neg hyb] at hn ⊢
      constructor
      · intro hh
        rcases inBs_cons.1 hh with hh | hh
        · exact hh.2
        · have := inBs_gt h hh; omega
      · intro hx
        exact inBs_cons.2 (.inl ⟨⟨by omega, by omega⟩, hx⟩)
theorem down_in {A : List Bd} (h : Good A) {n z x : Int} (hz : n ≤ z) : inBs (downB A n) x z ↔ inBs A x z := by
  cases A with
  | nil => exact Iff.rfl
  | cons b t =>
    unfold downB
    dsimp only
    split
    · exact Iff.rfl
    · rename_i hb
      rw [inBs_cons]
      refine ⟨fun h => .inr h, fun h => ?_⟩
      rcases h with h | h
      · have := h.1.2; omega
      · exact h

theorem bool_iff {a b : Bool} (h : a = true ↔ b = true) : a = b := by cases a <;> cases b <;> simp_all
theorem inE_row {A : List Bd} (h : Good A) {y n z x : Int} (hl : live A y) (hn : n ≤ nextB A y) (hz : y ≤ z) (hz' : z < n) : inE (es (rowIv A y)) false x = hasL (flats A) x z :=
  bool_iff (by rw [inE_es (band_flats h y).2.1, has_flats, row_in h hl hn hz hz'])

theorem seam_rects (y0 y1 y n : Int) : ∀ {l m : List Iv}, l ≠ [] → (seamB (rects y0 y1 l) (rects y n m) = true ↔ y1 = y ∧ l = m)
  | p :: l, [], _ => by
    refine ⟨fun h => ?_, fun h => ?_⟩
    · have : seamB (rects y0 y1 (p :: l)) (rects y n []) = false := rfl
      rw [this] at h; cases h
    · cases h.2
  | p :: l, q :: m, _ => by
    have e : seamB (rects y0 y1 (p :: l)) (rects y n (q :: m)) = if y1 = y ∧ p.a = q.a ∧ p.b = q.b then seamB (rects y0 y1 l) (rects y n m) else false := rfl
    rw [e]
    split
    · rename_i h
      have hpq : p = q := by cases p; cases q; simp_all
      subst hpq
      cases l with
      | nil =>
        cases m with
        | nil => exact ⟨fun _ => ⟨h.1, rfl⟩, fun _ => rfl⟩
        | cons r m => exact ⟨fun h => (by cases h), fun h => (by cases h.2)⟩
      | cons r l =>
        rw [seam_rects y0 y1 y n (by simp)]
        constructor
        · rintro ⟨a, b⟩; exact ⟨a, by rw [b]⟩
        · rintro ⟨a, b⟩; exact ⟨a, by injection b⟩
    · rename_i h
      refine ⟨fun h => (by cases h), fun h' => ?_⟩
      obtain ⟨a, b⟩ := h'
      injection b with b1 b2
      exact absurd ⟨a, by rw [b1], by rw [b1]⟩ h
theorem setY1_rects (y0 y1 y n : Int) : ∀ l : List Iv, setY1 (rects y0 y1 l) (rects y n l) = rects y0 n l
  | [] => rfl
  | p :: l => by
    have ih := setY1_rects y0 y1 y n l
    simp only [setY1, rects, List.map_cons, List.zipWith_cons_cons] at *
    rw [ih]

/-- where the last band begins -/
def Last (bs : List Bd) (last : Nat) : Prop := (bs = [] ∧ last = 0) ∨ ∃ init b, bs = init ++ [b] ∧ last = (flats init).length

theorem settle_good {bs : List Bd} {last : Nat} {y n : Int} {ivs : List Iv} (hy : y < n) (hg : Good bs) (hb : ∀ b ∈ bs, b.y1 ≤ y) (hL : Last bs last) (hs : Sep ivs) :
    ∃ bs' last', settleL (flats bs ++ rects y n ivs) last (flats bs).length = (flats bs', last') ∧ Good bs' ∧ (∀ b ∈ bs', b.y1 ≤ n) ∧ Last bs' last' ∧ ∀ x z, inBs bs' x z ↔ inBs bs x z ∨ ((y ≤ z ∧ z < n) ∧ inX ivs x) := by
  unfold settleL
  rw [List.drop_left, List.take_left]
  by_cases he : ivs = []
  · subst he
    refine ⟨bs, last, ?_, hg, fun b h => by have := hb b h; omega, hL, fun x z => ⟨.inl, fun h => ?_⟩⟩
    · rw [if_pos (by rfl)]; simp [rects]
    · rcases h with h | ⟨-, h⟩
      · exact h
      · exact absurd h (inX_nil x)
  · have hne : ¬ rects y n ivs = [] := fun e => he (by simpa [rects] using e)
    have hnew : OkB ⟨y, n, ivs⟩ := ⟨hy, he, hs⟩
    rw [if_neg hne]
    -- the band is put behind
    have hput : (∀ b ∈ bs, b.y1 = y → b.xs ≠ ivs) → ∃ bs' last', (flats bs ++ rects y n ivs, (flats bs).length) = (flats bs', last') ∧ Good bs' ∧ (∀ b ∈ bs', b.y1 ≤ n) ∧ Last bs' last' ∧ ∀ x z, inBs bs' x z ↔ inBs bs x z ∨ ((y ≤ z ∧ z < n) ∧ inX ivs x) := by
      intro hno
      refine ⟨bs ++ [⟨y, n, ivs⟩], (flats bs).length, by rw [flats_append, flats_one]; rfl, good_snoc.2 ⟨hg, hnew, fun q hq => ⟨hb q hq, fun e => hno q hq e⟩⟩, fun b h => ?_, .inr ⟨bs, _, rfl, rfl⟩, fun x z => ?_⟩
      · rcases List.mem_append.1 h with h | h
        · have := hb b h; omega
        · rw [List.mem_singleton] at h; subst h; exact Int.le_refl _
      · rw [inBs_append]
        refine or_congr Iff.rfl ⟨fun ⟨c, hc, h⟩ => ?_, fun h => ⟨_, List.mem_singleton.2 rfl, h⟩⟩
        rw [List.mem_singleton] at hc
        subst hc
        exact h
    rcases hL with ⟨rfl, rfl⟩ | ⟨init, b, rfl, rfl⟩
    · have : seamB (List.drop 0 (flats [])) (rects y n ivs) = false := by
        cases ivs with
        | nil => exact absurd rfl he
        | cons p l => rfl
      rw [if_neg (by rw [this]; simp)]
      exact hput (fun b hb => by cases hb)
    · obtain ⟨g1, g2, g3⟩ := good_snoc.1 hg
      have hdrop : (flats (init ++ [b])).drop (flats init).length = flatB b := by rw [flats_append, flats_one, List.drop_left]
      have htake : (flats (init ++ [b]) ++ rects y n ivs).take (flats init).length = flats init := by rw [flats_append, List.append_assoc, List.take_left]
      rw [hdrop, htake]
      have hsI : seamB (flatB b) (rects y n ivs) = true ↔ b.y1 = y ∧ b.xs = ivs := seam_rects b.y0 b.y1 y n g2.2.1
      by_cases hseam : b.y1 = y ∧ b.xs = ivs
      · rw [if_pos (hsI.2 hseam)]
        obtain ⟨e1, e2⟩ := hseam
        have hset : setY1 (flatB b) (rects y n ivs) = flatB ⟨b.y0, n, b.xs⟩ := by rw [← e2]; exact setY1_rects _ _ _ _ _
        rw [hset]
        refine ⟨init ++ [⟨b.y0, n, b.xs⟩], (flats init).length, by rw [flats_append, flats_one], good_snoc.2 ⟨g1, ⟨by have := g2.1; dsimp only; omega, g2.2⟩, g3⟩, fun c h => ?_, .inr ⟨init, _, rfl, rfl⟩, fun x z => ?_⟩
        · rcases List.mem_append.1 h with h | h
          · have := hb c (List.mem_append_left _ h); omega
          · rw [List.mem_singleton] at h; subst h; exact Int.le_refl _
        · have hb0 := g2.1
          rw [inBs_append, inBs_append, or_assoc]
          refine or_congr Iff.rfl ?_
          constructor
          · rintro ⟨c, hc, h⟩
            rw [List.mem_singleton] at hc
            subst hc
            obtain ⟨⟨h1, h2⟩, h3⟩ := h
            dsimp only at h1 h2 h3
            by_cases hz : z < y
            · exact .inl ⟨b, List.mem_singleton.2 rfl, ⟨h1, by omega⟩, h3⟩
            · exact .inr ⟨⟨by omega, h2⟩, by rw [← e2]; exact h3⟩
          · rintro (⟨c, hc, h⟩ | ⟨⟨h1, h2⟩, h3⟩)
            · rw [List.mem_singleton] at hc
              subst hc
              obtain ⟨⟨h1, h2⟩, h3⟩ := h
              exact ⟨_, List.mem_singleton.2 rfl, ⟨by dsimp only; omega, by dsimp only; omega⟩, h3⟩
            · exact ⟨_, List.mem_singleton.2 rfl, ⟨by dsimp only; omega, h2⟩, by rw [← e2] at h3; exact h3⟩
      · rw [if_neg (fun e => hseam (hsI.1 e))]
        refine hput (fun c hc e => ?_)
        rcases List.mem_append.1 hc with hc | hc
        · have h1 := (g3 c hc).1
          have h2 := g2.1
          have h3 := hb b (List.mem_append_right _ (List.mem_singleton.2 rfl))
          omega
        · rw [List.mem_singleton] at hc
          subst hc
          exact fun h => hseam ⟨e, h⟩

theorem es_len (l : List Iv) : (es l).length = 2 * l.length := by
  induction l with
  | nil => rfl
  | cons p l ih => rw [es_cons]; simp only [List.length_cons]; omega

theorem comb_run {f : Bool → Bool → Bool} (hf : f false false = false) (a0 b0 : List R) : ∀ (k : Nat) (A B : List Bd) (y : Int) (last : Nat) (bs : List Bd), mu A y + mu B y < k → Good A → Good B → Bounded A → Bounded B → live A y → live B y → y < 9223372036854775807 →
    (∀ x z, y ≤ z → hasL a0 x z = hasL (flats A) x z) → (∀ x z, y ≤ z → hasL b0 x z = hasL (flats B) x z) → Good bs → (∀ b ∈ bs, b.y1 ≤ y) → Last bs last → (∀ x z, inBs bs x z ↔ z < y ∧ wantL f a0 b0 x z = true) →
    ∃ out, combL f k (flats A) (flats B) y last (flats bs) = some (flats out) ∧ Good out ∧ ∀ x z, inBs out x z ↔ wantL f a0 b0 x z = true
  | 0, A, B, y, last, bs, hk, _, _, _, _, _, _, _, _, _, _, _, _, _ => absurd hk (Nat.not_lt_zero _)
  | k + 1, A, B, y, last, bs, hk, hA, hB, hbA, hbB, hlA, hlB, hy, ha, hb, hg, hle, hL, hin => by
    unfold combL
    by_cases hd : flats A = [] ∧ flats B = []
    · rw [if_pos hd]
      refine ⟨bs, rfl, hg, fun x z => ?_⟩
      rw [hin x z]
      refine ⟨fun h => h.2, fun h => ⟨?_, h⟩⟩
      by_cases hz : z < y
      · exact hz
      · unfold wantL at h
        rw [ha x z (by omega), hb x z (by omega), hd.1, hd.2] at h
        have : f (hasL [] x z) (hasL [] x z) = false := hf
        rw [this] at h
        cases h
    · rw [if_neg hd]
      dsimp only
      obtain ⟨fA1, fA2, fA3, -⟩ := band_flats hA y
      obtain ⟨fB1, fB2, fB3, -⟩ := band_flats hB y
      rw [fA1, fB1, fA3, fB3]
      have hnA := next_gt hlA hy
      have hnB := next_gt hlB hy
      obtain ⟨n, hn⟩ : ∃ n, n = mn (nextB A y) (nextB B y) := ⟨_, rfl⟩
      have hn1 : n ≤ nextB A y := by rw [hn]; unfold mn; omega
      have hn2 : n ≤ nextB B y := by rw [hn]; unfold mn; omega
      have hn3 : y < n := by rw [hn]; unfold mn; omega
      have hn4 : n = nextB A y ∨ n = nextB B y := by rw [hn]; unfold mn; omega
      rw [← hn]
      obtain ⟨-, -, -, fA4⟩ := band_flats hA n
      obtain ⟨-, -, -, fB4⟩ := band_flats hB n
      rw [fA4, fB4]
      obtain ⟨ivs, m1, m2, m3⟩ := merge_all hf y n fA2 fB2 (flats bs) ((es (rowIv A y)).length + (es (rowIv B y)).length + 1) (Nat.lt_succ_self _)
      rw [m1]
      obtain ⟨bs', last', s1, s2, s3, s4, s5⟩ := settle_good hn3 hg hle hL m2
      rw [s1]
      dsimp only
      have hbig : n < 9223372036854775807 := by
        have hAB : A ≠ [] ∨ B ≠ [] := by
          cases A with
          | nil =>
            cases B with
            | nil => exact absurd ⟨rfl, rfl⟩ hd
            | cons b t => exact .inr (by simp)
          | cons b t => exact .inl (by simp)
        have hle9 : ∀ {C : List Bd}, Good C → Bounded C → C ≠ [] → nextB C y < 9223372036854775807 := by
          intro C hC hbC hne
          cases C with
          | nil => exact absurd rfl hne
          | cons b t =>
            have h1 := hbC b List.mem_cons_self
            have h2 := (good_cons.1 hC).1.1
            unfold nextB
            dsimp only
            split <;> omega
        rcases hAB with h | h
        · have := hle9 hA hbA h; omega
        · have := hle9 hB hbB h; omega
      have hmu : mu (downB A n) n + mu (downB B n) n < k := by
        have u1 := mu_le hA hlA hn3 hn1
        have u2 := mu_le hB hlB hn3 hn2
        have hlt : mu (downB A n) n + mu (downB B n) n < mu A y + mu B y := by
          rcases hn4 with h | h
          · have hAne : A ≠ [] := by
              rintro rfl
              have : nextB [] y = 9223372036854775807 := rfl
              omega
            have := u1.2 h hAne
            omega
          · have hBne : B ≠ [] := by
              rintro rfl
              have : nextB [] y = 9223372036854775807 := rfl
              omega
            have := u2.2 h hBne
            omega
        omega
      refine comb_run hf a0 b0 k (downB A n) (downB B n) n last' bs' hmu (down_good hA n) (down_good hB n) (down_bounded hbA n) (down_bounded hbB n) (down_live hA hlA hn1) (down_live hB hlB hn2) hbig (fun x z hz => ?_) (fun x z hz => ?_) s2 s3 s4 (fun x z => ?_)
      · rw [ha x z (by omega)]
        exact bool_iff (by rw [has_flats, has_flats, down_in hA hz])
      · rw [hb x z (by omega)]
        exact bool_iff (by rw [has_flats, has_flats, down_in hB hz])
      · rw [s5 x z, hin x z, m3 x]
        constructor
        · rintro (⟨h1, h2⟩ | ⟨⟨h1, h2⟩, h3⟩)
          · exact ⟨by omega, h2⟩
          · rw [inE_row hA hlA hn1 h1 h2, inE_row hB hlB hn2 h1 h2, ← ha x z h1, ← hb x z h1] at h3
            exact ⟨h2, h3⟩
        · rintro ⟨h1, h2⟩
          by_cases hz : z < y
          · exact .inl ⟨hz, h2⟩
          · refine .inr ⟨⟨by omega, h1⟩, ?_⟩
            rw [inE_row hA hlA hn1 (by omega) h1, inE_row hB hlB hn2 (by omega) h1, ← ha x z (by omega), ← hb x z (by omega)]
            exact h2

theorem flats_len {l : List Bd} (h : Good l) : l.length ≤ (flats l).length := by
  induction l with
  | nil => exact Nat.le_refl _
  | cons b t ih =>
    obtain ⟨h1, -, h3⟩ := good_cons.1 h
    obtain ⟨r, m, e, -⟩ := flatB_head h1
    rw [flats_cons, e]
    have := ih h3
    simp only [List.length_cons, List.length_append, List.cons_append]
    omega
theorem mu_start {A : List Bd} (h : Good A) (y : Int) : mu A y ≤ 2 * (flats A).length := by
  have := flats_len h
  cases A with
  | nil => exact Nat.zero_le _
  | cons b t =>
    unfold mu
    simp only [List.length_cons] at this
    dsimp only
    split <;> omega

/-- two regions in bands, put together, are one in bands, of the points that are taken -/
theorem comb_good {f : Bool → Bool → Bool} (hf : f false false = false) {A B : List Bd} (hA : Good A) (hB : Good B) (hbA : Bounded A) (hbB : Bounded B) :
    ∃ out, comb f (flats A) (flats B) = some (flats out) ∧ Good out ∧ ∀ x z, inBs out x z ↔ wantL f (flats A) (flats B) x z = true := by
  have hlive : ∀ {C : List Bd}, Good C → Bounded C → live C (-9223372036854775808) := by
    intro C hC hbC
    cases C with
    | nil => trivial
    | cons b t =>
      have h1 := hbC b List.mem_cons_self
      have h2 := (good_cons.1 hC).1.1
      show _ < b.y1
      omega
  have hno : ∀ {C : List Bd}, Good C → Bounded C → ∀ x z, z < -9223372036854775808 → hasL (flats C) x z = false := by
    intro C hC hbC x z hz
    rw [Bool.eq_false_iff]
    intro h
    rw [has_flats] at h
    obtain ⟨b, hb, h⟩ := h
    have := (hbC b hb).1
    have := h.1.1
    omega
  refine comb_run hf (flats A) (flats B) _ A B _ 0 [] ?_ hA hB hbA hbB (hlive hA hbA) (hlive hB hbB) (by omega) (fun _ _ _ => rfl) (fun _ _ _ => rfl) good_nil (fun b h => by cases h) (.inl ⟨rfl, rfl⟩) (fun x z => ⟨fun h => absurd h (inBs_nil _ _), fun h => ?_⟩)
  · have h1 := mu_start hA (-9223372036854775808)
    have h2 := mu_start hB (-9223372036854775808)
    omega
  · obtain ⟨hz, h⟩ := h
    unfold wantL at h
    rw [hno hA hbA x z hz, hno hB hbB x z hz, hf] at h
    cases h

end Go.Proofs.Ytlakklpnajgjiaa.Num
