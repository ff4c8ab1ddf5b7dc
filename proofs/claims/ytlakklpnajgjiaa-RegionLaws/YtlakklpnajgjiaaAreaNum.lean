/- Areas are counts of points; so they add up. -/
import Derived.Test.YtlakklpnajgjiaaBounds
namespace Go.Proofs.Ytlakklpnajgjiaa.Num
set_option linter.unusedVariables false
set_option linter.unusedSimpArgs false

def sumI (f : Int → Int) (a : Int) : Nat → Int
  | 0 => 0
  | n + 1 => sumI f a n + f (a + n)
theorem sumI_congr {f g : Int → Int} (h : ∀ x, f x = g x) (a : Int) : ∀ n, sumI f a n = sumI g a n
  | 0 => rfl
  | n + 1 => by unfold sumI; rw [sumI_congr h a n, h]
theorem sumI_add (f g : Int → Int) (a : Int) : ∀ n, sumI (fun x => f x + g x) a n = sumI f a n + sumI g a n
  | 0 => rfl
  | n + 1 => by unfold sumI; rw [sumI_add f g a n]; omega
theorem sumI_le {f g : Int → Int} (h : ∀ x, f x ≤ g x) (a : Int) : ∀ n, sumI f a n ≤ sumI g a n
  | 0 => Int.le_refl _
  | n + 1 => by unfold sumI; have := sumI_le h a n; have := h (a + n); omega
theorem sumI_zero (a : Int) : ∀ n, sumI (fun _ => 0) a n = 0
  | 0 => rfl
  | n + 1 => by unfold sumI; rw [sumI_zero a n]; rfl
/-- how many of a stretch lie between -/
theorem sumI_in (p q k a : Int) (hp : a ≤ p) (hpq : p ≤ q) : ∀ n : Nat, sumI (fun x => if p ≤ x ∧ x < q then k else 0) a n = (if a + n ≤ p then 0 else if a + n ≤ q then (a + n - p) * k else (q - p) * k)
  | 0 => by
    unfold sumI
    split
    · rfl
    · split
      · have : a + ((0 : Nat) : Int) - p = 0 := by omega
        rw [this, Int.zero_mul]
      · omega
  | n + 1 => by
    unfold sumI
    rw [sumI_in p q k a hp hpq n]
    have e : a + ((n + 1 : Nat) : Int) = a + (n : Int) + 1 := by omega
    rw [e]
    generalize a + (n : Int) = X
    by_cases h1 : X + 1 ≤ p
    · rw [if_pos (show X ≤ p by omega), if_pos h1, if_neg (show ¬ (p ≤ X ∧ X < q) by omega)]; rfl
    · rw [if_neg h1]
      by_cases h2 : X ≤ p
      · rw [if_pos h2]
        by_cases h3 : X < q
        · rw [if_pos (show p ≤ X ∧ X < q by omega), if_pos (show X + 1 ≤ q by omega), show X + 1 - p = 1 by omega]; omega
        · rw [if_neg (show ¬ (p ≤ X ∧ X < q) by omega), if_neg (show ¬ X + 1 ≤ q by omega), show q - p = 0 by omega]; omega
      · rw [if_neg h2]
        by_cases h3 : X < q
        · rw [if_pos (show X ≤ q by omega), if_pos (show p ≤ X ∧ X < q by omega), if_pos (show X + 1 ≤ q by omega), show X + 1 - p = (X - p) + 1 by omega, Int.add_mul]; omega
        · rw [if_neg (show ¬ (p ≤ X ∧ X < q) by omega), if_neg (show ¬ X + 1 ≤ q by omega)]
          by_cases h4 : X ≤ q
          · rw [if_pos h4, show X = q by omega]; omega
          · rw [if_neg h4]; omega

def one (b : Bool) : Int := if b = true then 1 else 0
def pts (a : Int) (n : Nat) (h : Int → Int → Bool) : Int := sumI (fun z => sumI (fun x => one (h x z)) a n) a n
theorem pts_congr {g h : Int → Int → Bool} (e : ∀ x z, g x z = h x z) (a : Int) (n : Nat) : pts a n g = pts a n h := by
  unfold pts
  exact sumI_congr (fun z => sumI_congr (fun x => by rw [e]) a n) a n
theorem pts_add {g h k : Int → Int → Bool} (e : ∀ x z, one (k x z) = one (g x z) + one (h x z)) (a : Int) (n : Nat) : pts a n k = pts a n g + pts a n h := by
  unfold pts
  rw [← sumI_add]
  exact sumI_congr (fun z => by rw [← sumI_add]; exact sumI_congr (fun x => e x z) a n) a n
theorem pts_add2 {g h k m : Int → Int → Bool} (e : ∀ x z, one (k x z) + one (m x z) = one (g x z) + one (h x z)) (a : Int) (n : Nat) : pts a n k + pts a n m = pts a n g + pts a n h := by
  unfold pts
  rw [← sumI_add, ← sumI_add]
  exact sumI_congr (fun z => by rw [← sumI_add, ← sumI_add]; exact sumI_congr (fun x => e x z) a n) a n
theorem pts_le {g h : Int → Int → Bool} (e : ∀ x z, g x z = true → h x z = true) (a : Int) (n : Nat) : pts a n g ≤ pts a n h := by
  unfold pts
  refine sumI_le (fun z => sumI_le (fun x => ?_) a n) a n
  have := e x z
  unfold one
  cases hg : g x z
  · simp; split <;> omega
  · rw [this hg]; exact Int.le_refl _
theorem pts_none (a : Int) (n : Nat) : pts a n (fun _ _ => false) = 0 := by
  unfold pts
  have e : ∀ z : Int, sumI (fun x => one ((fun _ _ => false : Int → Int → Bool) x z)) a n = 0 := fun z => sumI_zero a n
  rw [sumI_congr (g := fun _ => 0) e]
  exact sumI_zero a n

def raw (r : R) : Int := (r.x1 - r.x0) * (r.y1 - r.y0)
def rawL (l : List R) : Int := l.foldr (fun r s => raw r + s) 0
theorem pts_rect {a : Int} {n : Nat} {r : R} (he : empB r = false) (h0 : a ≤ r.x0 ∧ a ≤ r.y0) (h1 : r.x1 ≤ a + n ∧ r.y1 ≤ a + n) : pts a n (hasB r) = raw r := by
  have hx : r.x0 < r.x1 ∧ r.y0 < r.y1 := by unfold empB at he; simp at he; omega
  have inner : ∀ z, sumI (fun x => one (hasB r x z)) a n = if r.y0 ≤ z ∧ z < r.y1 then r.x1 - r.x0 else 0 := by
    intro z
    by_cases hz : r.y0 ≤ z ∧ z < r.y1
    · rw [if_pos hz, sumI_congr (g := fun x => if r.x0 ≤ x ∧ x < r.x1 then 1 else 0) (fun x => by
        unfold one hasB
        by_cases hc : r.x0 ≤ x ∧ x < r.x1
        · rw [if_pos hc, if_pos (by simp; omega)]
        · rw [if_neg hc, if_neg (by simp; omega)]), sumI_in _ _ _ _ h0.1 (by omega)]
      rw [if_neg (by omega)]
      by_cases h2 : a + (n : Int) ≤ r.x1
      · rw [if_pos h2]; omega
      · rw [if_neg h2]; omega
    · rw [if_neg hz, sumI_congr (g := fun x => 0) (fun x => by
        unfold one hasB
        rw [if_neg (by simp; omega)])]
      exact sumI_zero a n
  unfold pts
  rw [sumI_congr inner, sumI_in _ _ _ _ h0.2 (by omega), if_neg (by omega)]
  unfold raw
  by_cases h2 : a + (n : Int) ≤ r.y1
  · rw [if_pos h2, show a + (n : Int) - r.y0 = r.y1 - r.y0 by omega, Int.mul_comm]
  · rw [if_neg h2, Int.mul_comm]

def Apart (r s : R) : Prop := ∀ x z, ¬ (hasB r x z = true ∧ hasB s x z = true)
theorem pts_list {a : Int} {n : Nat} : ∀ {l : List R}, l.Pairwise Apart → (∀ r ∈ l, empB r = false ∧ (a ≤ r.x0 ∧ a ≤ r.y0) ∧ (r.x1 ≤ a + n ∧ r.y1 ≤ a + n)) → pts a n (hasL l) = rawL l
  | [], _, _ => by
    exact (pts_congr (g := hasL []) (h := fun _ _ => false) (fun x z => rfl) a n).trans (pts_none a n)
  | r :: l, hp, hb => by
    rw [List.pairwise_cons] at hp
    obtain ⟨h0, h1, h2⟩ := hb r List.mem_cons_self
    have ih := pts_list (a := a) (n := n) hp.2 (fun s hs => hb s (List.mem_cons_of_mem _ hs))
    have e : pts a n (hasL (r :: l)) = pts a n (hasB r) + pts a n (hasL l) := by
      refine pts_add (fun x z => ?_) a n
      show one (hasB r x z || hasL l x z) = _
      cases hr : hasB r x z
      · simp [one]
      · cases hl : hasL l x z
        · simp [one]
        · exfalso
          unfold hasL at hl
          obtain ⟨s, hs, hsx⟩ := List.any_eq_true.1 hl
          exact hp.1 s hs x z ⟨hr, hsx⟩
    rw [e, pts_rect h0 h1 h2, ih]
    rfl

theorem apart_flats {bs : List Bd} (h : Good bs) : (flats bs).Pairwise Apart := by
  unfold flats
  rw [List.pairwise_flatMap]
  refine ⟨fun b hb => ?_, ?_⟩
  · unfold flatB rects
    rw [List.pairwise_map]
    refine (h.1 b hb).2.2.2.imp fun {p q} hpq x z => ?_
    rintro ⟨h1, h2⟩
    unfold hasB at h1 h2
    simp at h1 h2
    omega
  · refine h.2.imp fun {b c} hbc r hr s hs x z => ?_
    rintro ⟨h1, h2⟩
    unfold flatB rects at hr hs
    obtain ⟨p, -, rfl⟩ := List.mem_map.1 hr
    obtain ⟨q, -, rfl⟩ := List.mem_map.1 hs
    unfold hasB at h1 h2
    simp at h1 h2
    omega
theorem full_flats {bs : List Bd} (h : Good bs) {r : R} (hr : r ∈ flats bs) : empB r = false := by
  unfold flats at hr
  obtain ⟨b, hb, hr⟩ := List.mem_flatMap.1 hr
  unfold flatB rects at hr
  obtain ⟨p, hp, rfl⟩ := List.mem_map.1 hr
  have h1 := (h.1 b hb).1
  have h2 := (h.1 b hb).2.2.1 p hp
  unfold empB
  simp
  omega
theorem pts_reg {a : Int} {n : Nat} (ha : a ≤ -4398046511104) (hn : 4398046511104 ≤ a + n) {l : List R} (hr : Reg l) (hok : ∀ r ∈ l, Ok r) : pts a n (hasL l) = rawL l := by
  obtain ⟨bs, rfl, hg, -⟩ := hr
  refine pts_list (apart_flats hg) fun r h => ⟨full_flats hg h, ?_, ?_⟩
  · have := hok r h; unfold Ok at this; omega
  · have := hok r h; unfold Ok at this; omega

theorem raw_pos {l : List R} (hr : ∀ r ∈ l, empB r = false) : 0 ≤ rawL l := by
  induction l with
  | nil => exact Int.le_refl _
  | cons r l ih =>
    have h1 := ih fun s hs => hr s (List.mem_cons_of_mem _ hs)
    have h2 := hr r List.mem_cons_self
    unfold empB at h2
    simp at h2
    have : 0 ≤ raw r := Int.mul_nonneg (by omega) (by omega)
    show 0 ≤ raw r + rawL l
    omega
theorem area_raw {r : R} (h : empB r = false) : area r = mn (raw r) 2305843009213693952 ∧ 0 ≤ raw r := by
  refine ⟨?_, ?_⟩
  · unfold area; rw [if_neg (by simp [h])]; rfl
  · unfold empB at h; simp at h; exact Int.mul_nonneg (by omega) (by omega)
theorem areaF_raw {l : List R} (hr : ∀ r ∈ l, empB r = false) : areaF l = mn (rawL l) 2305843009213693952 := by
  unfold areaF
  suffices h : ∀ n : Int, 0 ≤ n → n ≤ 2305843009213693952 → l.foldl (fun n r => mn (n + area r) 2305843009213693952) n = mn (n + rawL l) 2305843009213693952 by
    rw [h 0 (by omega) (by omega), Int.zero_add]
  induction l with
  | nil => intro n h0 h1; show n = mn (n + 0) _; unfold mn; omega
  | cons r l ih =>
    intro n h0 h1
    obtain ⟨e, hp⟩ := area_raw (hr r List.mem_cons_self)
    have hq := raw_pos fun s hs => hr s (List.mem_cons_of_mem _ hs)
    show l.foldl _ (mn (n + area r) 2305843009213693952) = mn (n + (raw r + rawL l)) _
    rw [ih (fun s hs => hr s (List.mem_cons_of_mem _ hs)) _ (by rw [e]; unfold mn; omega) (by unfold mn; omega), e]
    unfold mn
    omega
/-- areas, as the document's promise has them: they add up -/
theorem areas_add {a b : List R} (ra : Reg a) (rb : Reg b) (oa : ∀ r ∈ a, Ok r) (ob : ∀ r ∈ b, Ok r) (hj : areaF (setsL orF a b) < 1152921504606846976) :
    areaF (setsL andF a b) + areaF (setsL cutF a b) = areaF a ∧ areaF (setsL orF a b) + areaF (setsL andF a b) = areaF a + areaF b := by
  obtain ⟨N, hN⟩ : ∃ N : Nat, (N : Int) = 8796093022208 := ⟨8796093022208, rfl⟩
  obtain ⟨L, hL⟩ : ∃ L : Int, L = -4398046511104 := ⟨_, rfl⟩
  have rm := reg_sets fits_and oa ob
  have rc := reg_sets fits_cut oa ob
  have rj := reg_sets fits_or oa ob
  have full : ∀ {l : List R}, Reg l → ∀ r ∈ l, empB r = false := fun {l} ⟨bs, e, hg, _⟩ r hr => full_flats hg (e ▸ hr)
  have P : ∀ {l : List R}, Reg l → (∀ r ∈ l, Ok r) → pts L N (hasL l) = rawL l := fun h1 h2 => pts_reg (by omega) (by omega) h1 h2
  have e1 : pts L N (hasL a) = pts L N (hasL (setsL andF a b)) + pts L N (hasL (setsL cutF a b)) := by
    refine pts_add (fun x z => ?_) L N
    rw [has_sets fits_and, has_sets fits_cut]
    unfold wantL andF cutF one
    cases hasL a x z <;> cases hasL b x z <;> rfl
  have e2 : pts L N (hasL (setsL orF a b)) + pts L N (hasL (setsL andF a b)) = pts L N (hasL a) + pts L N (hasL b) := by
    refine pts_add2 (fun x z => ?_) L N
    rw [has_sets fits_and, has_sets fits_or]
    unfold wantL andF orF one
    cases hasL a x z <;> cases hasL b x z <;> rfl
  have e3 : pts L N (hasL a) ≤ pts L N (hasL (setsL orF a b)) := pts_le (fun x z h => by rw [has_sets fits_or]; unfold wantL orF; rw [h]; rfl) L N
  have e4 : pts L N (hasL b) ≤ pts L N (hasL (setsL orF a b)) := pts_le (fun x z h => by rw [has_sets fits_or]; unfold wantL orF; rw [h]; exact Bool.or_true _) L N
  rw [P ra oa, P rm.1 rm.2, P rc.1 rc.2] at e1
  rw [P ra oa, P rb ob, P rm.1 rm.2, P rj.1 rj.2] at e2
  rw [P ra oa, P rj.1 rj.2] at e3
  rw [P rb ob, P rj.1 rj.2] at e4
  have p1 := raw_pos (full rm.1)
  have p2 := raw_pos (full rc.1)
  rw [areaF_raw (full rj.1)] at hj ⊢
  rw [areaF_raw (full rm.1), areaF_raw (full rc.1), areaF_raw (full ra), areaF_raw (full rb)]
  unfold mn at *
  omega
end Go.Proofs.Ytlakklpnajgjiaa.Num
