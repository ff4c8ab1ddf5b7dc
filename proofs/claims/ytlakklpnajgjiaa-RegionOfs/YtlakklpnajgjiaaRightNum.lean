/- A list that passes the test of a right region is one in bands, and the other way about. -/
import Derived.Test.YtlakklpnajgjiaaRight
import Derived.Test.YtlakklpnajgjiaaMeans
namespace Go.Proofs.Ytlakklpnajgjiaa.Num
set_option linter.unusedVariables false

theorem part_rects {y0 y1 : Int} : ∀ {t : List R} {p : R}, p.y1 = y1 → p.x0 < p.x1 → (∀ r ∈ t, r.y0 = y0 ∧ r.x0 < r.x1) → partB y1 p t = true → ∃ ivs, t = rects y0 y1 ivs ∧ Sep (⟨p.x0, p.x1⟩ :: ivs)
  | [], p, _, hp, _, _ => ⟨[], rfl, sep_cons.2 ⟨hp, fun q hq => (by cases hq), sep_nil⟩⟩
  | r :: t, p, e, hp, hr, h => by
    unfold partB at h
    split at h
    · rename_i hc
      have hr0 := hr r List.mem_cons_self
      obtain ⟨ivs, rfl, hs⟩ := part_rects (y0 := y0) hc.1 hr0.2 (fun s hs => hr s (List.mem_cons_of_mem _ hs)) h
      refine ⟨⟨r.x0, r.x1⟩ :: ivs, ?_, sep_cons.2 ⟨hp, fun q hq => ?_, hs⟩⟩
      · obtain ⟨a, b, c, d⟩ := r
        simp only [rects, List.map_cons] at *
        have e1 : b = y0 := hr0.1
        have e2 : d = y1 := hc.1
        subst e1 e2
        rfl
      · rcases List.mem_cons.1 hq with rfl | hq
        · exact hc.2
        · have h1 := (sep_cons.1 hs).2.1 q hq
          have h2 := hc.2
          dsimp only at h1 ⊢
          have := hr0.2
          omega
    · cases h
theorem rects_part {y0 y1 : Int} : ∀ {ivs : List Iv} {p : R}, Sep (⟨p.x0, p.x1⟩ :: ivs) → partB y1 p (rects y0 y1 ivs) = true
  | [], p, _ => rfl
  | q :: ivs, p, h => by
    obtain ⟨-, h2, h3⟩ := sep_cons.1 h
    have hq := h2 q List.mem_cons_self
    show (if y1 = y1 ∧ p.x1 < q.a then partB y1 ⟨q.a, y0, q.b, y1⟩ (rects y0 y1 ivs) else false) = true
    rw [if_pos ⟨rfl, hq⟩]
    exact rects_part h3

theorem first_band {r : R} {t : List R} (he : ∀ s ∈ r :: t, empB s = false) (hp : partedB (firstL (r :: t)) = true) : ∃ b, firstL (r :: t) = flatB b ∧ OkB b ∧ b.y0 = r.y0 := by
  have h1 : ∀ s ∈ t.takeWhile (fun s => decide (s.y0 = r.y0)), s.y0 = r.y0 ∧ s.x0 < s.x1 := by
    intro s hs
    refine ⟨?_, (of_some (he s (List.mem_cons_of_mem _ ((List.takeWhile_sublist _).subset hs)))).1⟩
    have := List.all_takeWhile (p := fun s : R => decide (s.y0 = r.y0)) (l := t)
    exact of_decide_eq_true (List.all_eq_true.1 this s hs)
  have hr := of_some (he r List.mem_cons_self)
  obtain ⟨ivs, e, hs⟩ := part_rects (y0 := r.y0) rfl hr.1 h1 hp
  refine ⟨⟨r.y0, r.y1, ⟨r.x0, r.x1⟩ :: ivs⟩, ?_, ⟨hr.2, by simp, hs⟩, rfl⟩
  show r :: t.takeWhile (fun s => decide (s.y0 = r.y0)) = _
  rw [e]
  rfl
theorem flatB_parted {b : Bd} (h : OkB b) : partedB (flatB b) = true := by
  obtain ⟨-, hn, hs⟩ := h
  obtain ⟨y0, y1, xs⟩ := b
  cases xs with
  | nil => exact absurd rfl hn
  | cons p ivs => exact rects_part (y0 := y0) (y1 := y1) (p := ⟨p.a, y0, p.b, y1⟩) hs
theorem follows_flatB {p b : Bd} (hp : OkB p) (hb : OkB b) : followsB (flatB p) (flatB b) = true ↔ p.y1 ≤ b.y0 ∧ (p.y1 = b.y0 → p.xs ≠ b.xs) := by
  have hs : seamB (flatB p) (flatB b) = true ↔ p.y1 = b.y0 ∧ p.xs = b.xs := seam_rects p.y0 p.y1 b.y0 b.y1 hp.2.1
  obtain ⟨r, l, e, -, hr1, -⟩ := flatB_head hp
  obtain ⟨s, m, e', hs0, -, -⟩ := flatB_head hb
  rw [e, e'] at hs ⊢
  show (decide (r.y1 ≤ s.y0) && !seamB (r :: l) (s :: m)) = true ↔ _
  rw [Bool.and_eq_true, decide_eq_true_eq, hr1, hs0]
  refine and_congr Iff.rfl ?_
  rw [Bool.not_eq_true', ← Bool.not_eq_true, hs]
  exact ⟨fun h e1 e2 => h ⟨e1, e2⟩, fun h ⟨e1, e2⟩ => h e1 e2⟩
theorem good_link {p b : Bd} {bs : List Bd} (hp : OkB p) (hg : Good (b :: bs)) (h : p.y1 ≤ b.y0 ∧ (p.y1 = b.y0 → p.xs ≠ b.xs)) : Good (p :: b :: bs) := by
  obtain ⟨h1, h2, -⟩ := good_cons.1 hg
  refine good_cons.2 ⟨hp, fun q hq => ?_, hg⟩
  rcases List.mem_cons.1 hq with rfl | hq
  · exact h
  · have h3 := (h2 q hq).1
    have h4 := h1.1
    exact ⟨by omega, fun e => by omega⟩

/-- what stands above: a band, or none -/
def aboveL : Option Bd → List R
  | none => []
  | some p => flatB p
def OkO : Option Bd → Prop
  | none => True
  | some p => OkB p
def GoodO : Option Bd → List Bd → Prop
  | none, l => Good l
  | some p, l => Good (p :: l)
theorem bands_good : ∀ (k : Nat) (o : Option Bd) (l : List R), l.length < k → OkO o → (∀ s ∈ l, empB s = false) → bandsB k (aboveL o) l = true → ∃ bs, l = flats bs ∧ GoodO o bs
  | 0, o, l, h, _, _, _ => absurd h (Nat.not_lt_zero _)
  | k + 1, o, [], _, ho, _, _ => by
    refine ⟨[], rfl, ?_⟩
    cases o with
    | none => exact good_nil
    | some p => exact good_cons.2 ⟨ho, fun q hq => (by cases hq), good_nil⟩
  | k + 1, o, r :: t, hk, ho, he, h => by
    unfold bandsB at h
    split at h
    · rename_i hc
      obtain ⟨b, e, hb, -⟩ := first_band he hc.1
      have hlen : ((r :: t).drop (firstL (r :: t)).length).length < k := by
        have : 0 < (firstL (r :: t)).length := by simp [firstL]
        have h9 := first_le (r :: t)
        rw [List.length_drop]
        omega
      have hab : firstL (r :: t) = aboveL (some b) := e
      rw [hab] at h
      obtain ⟨bs, e2, hg⟩ := bands_good k (some b) _ (by rw [← hab]; exact hlen) hb (fun s hs => he s (List.mem_of_mem_drop hs)) h
      refine ⟨b :: bs, ?_, ?_⟩
      · rw [flats_cons, ← e2]
        show _ = flatB b ++ _
        have := List.take_append_drop (firstL (r :: t)).length (r :: t)
        rw [← first_take, e] at this
        exact this.symm
      · cases o with
        | none => exact hg
        | some p =>
          have hf := hc.2
          rw [e] at hf
          exact good_link ho hg ((follows_flatB ho hb).1 hf)
    · cases h
theorem good_bands : ∀ (k : Nat) (o : Option Bd) (bs : List Bd), GoodO o bs → OkO o → bandsB k (aboveL o) (flats bs) = true
  | 0, o, bs, _, _ => rfl
  | k + 1, o, [], _, _ => rfl
  | k + 1, o, b :: bs, hg, ho => by
    have hgb : Good (b :: bs) := by
      cases o with
      | none => exact hg
      | some p => exact (good_cons.1 hg).2.2
    have hb := (good_cons.1 hgb).1
    have hf := first_flats hgb
    obtain ⟨r, l, e, -, -⟩ := flats_head hgb
    have hfol : followsB (aboveL o) (flatB b) = true := by
      cases o with
      | none =>
        obtain ⟨s, m, e', -⟩ := flatB_head hb
        show followsB [] (flatB b) = true
        rw [e']
        rfl
      | some p => exact (follows_flatB ho hb).2 ((good_cons.1 hg).2.1 b List.mem_cons_self)
    have hstep : bandsB (k + 1) (aboveL o) (flats (b :: bs)) = if partedB (firstL (flats (b :: bs))) = true ∧ followsB (aboveL o) (firstL (flats (b :: bs))) = true then bandsB k (firstL (flats (b :: bs))) ((flats (b :: bs)).drop (firstL (flats (b :: bs))).length) else false := by rw [e]; rfl
    rw [hstep, hf, if_pos ⟨flatB_parted hb, hfol⟩, flats_cons, List.drop_left]
    exact good_bands k (some b) bs hgb hb

theorem within_ok {r : R} (h : empB r = false) : withinB r = true ↔ Ok r := by
  have h0 := of_some h
  unfold withinB
  rw [decide_eq_true_eq]
  constructor
  · intro e
    have hne : empB (meet r allR) = false := by rw [e]; exact h
    unfold meet at e hne
    rcases orN_or ⟨mx r.x0 allR.x0, mx r.y0 allR.y0, mn r.x1 allR.x1, mn r.y1 allR.y1⟩ with e2 | e2
    · rw [e2] at hne
      have : empB nil = true := by decide
      rw [this] at hne
      cases hne
    · rw [e2] at e
      have e0 : mx r.x0 allR.x0 = r.x0 := by rw [← e]; simp [mx, allR]
      have e1 : mx r.y0 allR.y0 = r.y0 := by rw [← e]; simp [mx, allR]
      have e3 : mn r.x1 allR.x1 = r.x1 := by rw [← e]; simp [mn, allR]
      have e4 : mn r.y1 allR.y1 = r.y1 := by rw [← e]; simp [mn, allR]
      unfold mx mn allR at *
      dsimp only at e0 e1 e3 e4
      unfold Ok
      omega
  · intro h
    have : meet r allR = orN r := meet_all h
    rw [this]
    exact orN_no (by assumption)
theorem right_iff (r : R) : rightB r = true ↔ Ok r := by
  constructor
  · exact of_right
  · intro h
    unfold Ok at h
    unfold rightB nearB
    simp only [decide_eq_true_eq]
    exact h
/-- the test and the document's are one -/
theorem rightG_ref (l : List R) (hok : ∀ r ∈ l, Ok r) : rightG l = refRightB l := by
  unfold rightG refRightB
  have h1 : (l.all fun r => !empB r && withinB r) = l.all fun r => rightB r && !empB r := by
    refine bool_iff ?_
    rw [List.all_eq_true, List.all_eq_true]
    refine forall_congr' fun r => forall_congr' fun hr => ?_
    rcases he : empB r with _ | _
    · have := (within_ok he).2 (hok r hr)
      have h2 := (right_iff r).2 (hok r hr)
      simp [this, h2]
    · simp
  rw [h1]
  rcases hall : (l.all fun r => rightB r && !empB r) with _ | _
  · rfl
  · rw [Bool.true_and, Bool.true_and]
    have hne : ∀ s ∈ l, empB s = false := fun s hs => by
      have := List.all_eq_true.1 hall s hs
      rw [Bool.and_eq_true] at this
      simpa using this.2
    refine bool_iff ?_
    rw [decide_eq_true_eq]
    constructor
    · intro h
      obtain ⟨bs, e, hg⟩ := bands_good (l.length + 1) none l (Nat.lt_succ_self _) trivial hne h
      obtain ⟨m, e2, g2, h2⟩ := sets_good fits_or l []
      rw [e2, e]
      refine flats_inj hg g2 fun x z => ?_
      rw [← e2, has_sets fits_or, want_or_nil, ← e]
    · intro e
      obtain ⟨m, e2, g2, h2⟩ := sets_good fits_or l []
      have : l = flats m := e.trans e2
      rw [this]
      exact good_bands _ none m g2 trivial
theorem rightG_few {l : List R} (hl : l.length ≤ 20) (h : fewB l = false) : rightG l = false := by
  unfold fewB at h
  rw [decide_eq_true hl, Bool.true_and] at h
  unfold rightG
  have : (l.all fun r => !empB r && withinB r) = false := by
    rw [Bool.eq_false_iff] at h ⊢
    intro hc
    apply h
    rw [List.all_eq_true] at hc ⊢
    intro r hr
    have := hc r hr
    rw [Bool.and_eq_true] at this
    exact (right_iff r).2 ((within_ok (by simpa using this.1)).1 this.2)
  rw [this]
  rfl
end Go.Proofs.Ytlakklpnajgjiaa.Num
