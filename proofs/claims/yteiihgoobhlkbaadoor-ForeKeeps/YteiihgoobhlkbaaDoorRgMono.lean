/- More points make no fewer points: moved, grown and put together. -/
import Derived.Test.YteiihgoobhlkbaaDoorRgEdge
namespace Go.Proofs.YteiihgoobhlkbaaDoor.Rg.Num
set_option linter.unusedVariables false

theorem ok_cutR (a b c d : Int) : Ok (cutR a b c d) := by
  unfold cutR
  apply ok_orN
  unfold Ok cutN mx mn
  dsimp only
  omega
theorem ok_moveR (r : R) (dx dy : Int) : Ok (moveR r dx dy) := by
  unfold moveR
  split
  · exact ok_nil
  · exact ok_cutR _ _ _ _
theorem ok_grow (r : R) (l u a d : Int) : Ok (grow r l u a d) := by
  unfold grow
  split
  · exact ok_nil
  · exact ok_cutR _ _ _ _
/-- no fewer points -/
def Sub (a b : List R) : Prop := ∀ x z, hasL a x z = true → hasL b x z = true
theorem sub_refl (a : List R) : Sub a a := fun x z h => h
theorem sub_nil (b : List R) : Sub [] b := fun x z h => by cases h
theorem has_or (a b : List R) (x z : Int) : hasL (setsL orF a b) x z = (hasL a x z || hasL b x z) := has_sets fits_or a b x z
theorem has_and (a b : List R) (x z : Int) : hasL (setsL andF a b) x z = (hasL a x z && hasL b x z) := has_sets fits_and a b x z
theorem has_cut (a b : List R) (x z : Int) : hasL (setsL cutF a b) x z = (hasL a x z && !hasL b x z) := has_sets fits_cut a b x z
theorem sub_or {a a' b b' : List R} (h : Sub a a') (k : Sub b b') : Sub (setsL orF a b) (setsL orF a' b') := fun x z hx => by
  rw [has_or, Bool.or_eq_true] at hx ⊢
  rcases hx with hx | hx
  · exact Or.inl (h x z hx)
  · exact Or.inr (k x z hx)
theorem sub_and {a a' b b' : List R} (h : Sub a a') (k : Sub b b') : Sub (setsL andF a b) (setsL andF a' b') := fun x z hx => by
  rw [has_and, Bool.and_eq_true] at hx ⊢
  exact ⟨h x z hx.1, k x z hx.2⟩
theorem sub_left (a b : List R) : Sub a (setsL orF a b) := fun x z hx => by rw [has_or, hx]; rfl
theorem none_nil {l : List R} (h : Reg l) (hn : ∀ x z, hasL l x z = false) : l = [] := by
  have e := sets_reg fits_or h (c := []) (d := []) fun x z => by rw [hn]; rfl
  rw [← e]; rfl
/-- .. of bands that may lie anywhere -/
theorem none_nil' {l : List R} (h : ∃ bs, l = flats bs ∧ Good bs) (hn : ∀ x z, hasL l x z = false) : l = [] := by
  obtain ⟨bs, rfl, hg⟩ := h
  have e := flats_inj hg good_nil fun x z => by rw [hn]; rfl
  rw [e]; rfl
theorem some_pt {l : List R} (h : Reg l) (hn : l ≠ []) : ∃ x z, hasL l x z = true := by
  refine Classical.byContradiction fun hc => hn (none_nil h fun x z => ?_)
  rw [Bool.eq_false_iff]
  exact fun hx => hc ⟨x, z, hx⟩
theorem cut_none {a b : List R} (ha : ∀ r ∈ a, Ok r) (hb : ∀ r ∈ b, Ok r) (h : Sub a b) : setsL cutF a b = [] := by
  refine none_nil (reg_sets fits_cut ha hb).1 fun x z => ?_
  rw [has_cut]
  rcases hx : hasL a x z with _ | _
  · rfl
  · rw [h x z hx]; rfl

theorem has_iff' {r : R} {x z : Int} : hasB r x z = true ↔ (r.x0 ≤ x ∧ x < r.x1) ∧ (r.y0 ≤ z ∧ z < r.y1) := by
  unfold hasB
  rw [decide_eq_true_iff]
  constructor
  · rintro ⟨h1, h2, h3, h4⟩; exact ⟨⟨h1, h2⟩, h3, h4⟩
  · rintro ⟨⟨h1, h2⟩, h3, h4⟩; exact ⟨h1, h2, h3, h4⟩

def Nr (n : Int) : Prop := -4398046511104 ≤ n ∧ n ≤ 4398046511104
theorem mv1 {d a b x : Int} (hab : a < b) (ha : Nr a) (hb : Nr b) (h1 : cutN (mvd a d) ≤ x) (h2 : x < cutN (mvd b d)) :
    ∃ u, (a ≤ u ∧ u < b) ∧ ∀ c e, Nr c → Nr e → c ≤ u → u < e → cutN (mvd c d) ≤ x ∧ x < cutN (mvd e d) := by
  unfold Nr at ha hb
  unfold cutN mvd mx mn at h1 h2
  refine ⟨max a (min (x - d) (b - 1)), ⟨by omega, by omega⟩, fun c e hc he hcu hue => ?_⟩
  unfold Nr at hc he
  unfold cutN mvd mx mn
  split at h1 <;> split at h2 <;> split <;> split <;> omega
theorem gr1 {l k a b x : Int} (hl : 0 ≤ l) (hk : 0 ≤ k) (hab : a < b) (ha : Nr a) (hb : Nr b) (h1 : cutN (a - l) ≤ x) (h2 : x < cutN (b + k)) :
    ∃ u, (a ≤ u ∧ u < b) ∧ ∀ c e, Nr c → Nr e → c ≤ u → u < e → cutN (c - l) ≤ x ∧ x < cutN (e + k) := by
  unfold Nr at ha hb
  unfold cutN mx mn at h1 h2
  refine ⟨max a (min x (b - 1)), ⟨by omega, by omega⟩, fun c e hc he hcu hue => ?_⟩
  unfold Nr at hc he
  unfold cutN mx mn
  omega

/-- where a point of what is made of a rectangle comes from -/
def Pt (g : R → R) : Prop := ∀ r x z, Ok r → hasB (g r) x z = true → ∃ u v, hasB r u v = true ∧ ∀ s, Ok s → hasB s u v = true → hasB (g s) x z = true
theorem sub_map {g : R → R} (hg : Pt g) {a b : List R} (ha : ∀ r ∈ a, Ok r) (hb : ∀ r ∈ b, Ok r) (h : Sub a b) : Sub (a.map g) (b.map g) := fun x z hx => by
  obtain ⟨s, hs, hx⟩ := List.any_eq_true.1 hx
  obtain ⟨r, hr, rfl⟩ := List.mem_map.1 hs
  obtain ⟨u, v, h1, h2⟩ := hg r x z (ha r hr) hx
  obtain ⟨t, ht, h3⟩ := List.any_eq_true.1 (h u v (List.any_eq_true.2 ⟨r, hr, h1⟩))
  exact List.any_eq_true.2 ⟨g t, List.mem_map_of_mem ht, h2 t (hb t ht) h3⟩
theorem some_of {r : R} {x z : Int} (h : hasB r x z = true) : empB r = false := by
  have := has_iff'.1 h
  exact emp_no (by omega) (by omega)
theorem pt_move (dx dy : Int) : Pt fun r => moveR r dx dy := by
  intro r x z hr h
  by_cases he : empB r = true
  · have : hasB nil x z = true := by rw [← h]; simp only [moveR]; rw [if_pos he]
    rw [has_empty (r := nil) (by decide)] at this
    cases this
  · have he' : empB r = false := by simpa using he
    have e : ∀ s : R, empB s = false → hasB (moveR s dx dy) x z = hasB ⟨cutN (mvd s.x0 dx), cutN (mvd s.y0 dy), cutN (mvd s.x1 dx), cutN (mvd s.y1 dy)⟩ x z := fun s hs => by
      unfold moveR cutR
      rw [if_neg (by simp [hs]), has_orN]
    have h0 : hasB (moveR r dx dy) x z = true := h
    rw [e r he'] at h0
    obtain ⟨⟨h1, h2⟩, h3, h4⟩ := has_iff'.1 h0
    obtain ⟨hx, hy⟩ := of_some he'
    obtain ⟨u, hu, hU⟩ := mv1 hx hr.1 hr.2.2.1 h1 h2
    obtain ⟨v, hv, hV⟩ := mv1 hy hr.2.1 hr.2.2.2 h3 h4
    refine ⟨u, v, has_iff'.2 ⟨hu, hv⟩, fun s hs hsu => ?_⟩
    show hasB (moveR s dx dy) x z = true
    rw [e s (some_of hsu)]
    have hsu := has_iff'.1 hsu
    exact has_iff'.2 ⟨hU _ _ hs.1 hs.2.2.1 hsu.1.1 hsu.1.2, hV _ _ hs.2.1 hs.2.2.2 hsu.2.1 hsu.2.2⟩
theorem pt_grow {k1 k2 k3 k4 : Int} (h1 : 0 ≤ k1) (h2 : 0 ≤ k2) (h3 : 0 ≤ k3) (h4 : 0 ≤ k4) : Pt fun r => grow r k1 k2 k3 k4 := by
  intro r x z hr h
  by_cases he : empB r = true
  · have : hasB nil x z = true := by rw [← h]; simp only [grow]; rw [if_pos he]
    rw [has_empty (r := nil) (by decide)] at this
    cases this
  · have he' : empB r = false := by simpa using he
    have e : ∀ s : R, empB s = false → hasB (grow s k1 k2 k3 k4) x z = hasB ⟨cutN (s.x0 - k1), cutN (s.y0 - k2), cutN (s.x1 + k3), cutN (s.y1 + k4)⟩ x z := fun s hs => by
      unfold grow cutR
      rw [if_neg (by simp [hs]), has_orN]
    have h0 : hasB (grow r k1 k2 k3 k4) x z = true := h
    rw [e r he'] at h0
    obtain ⟨⟨g1, g2⟩, g3, g4⟩ := has_iff'.1 h0
    obtain ⟨hx, hy⟩ := of_some he'
    obtain ⟨u, hu, hU⟩ := gr1 h1 h3 hx hr.1 hr.2.2.1 g1 g2
    obtain ⟨v, hv, hV⟩ := gr1 h2 h4 hy hr.2.1 hr.2.2.2 g3 g4
    refine ⟨u, v, has_iff'.2 ⟨hu, hv⟩, fun s hs hsu => ?_⟩
    show hasB (grow s k1 k2 k3 k4) x z = true
    rw [e s (some_of hsu)]
    have hsu := has_iff'.1 hsu
    exact has_iff'.2 ⟨hU _ _ hs.1 hs.2.2.1 hsu.1.1 hsu.1.2, hV _ _ hs.2.1 hs.2.2.2 hsu.2.1 hsu.2.2⟩

/-- the edges of what is moved, and of what is grown -/
theorem wi_move {X Y : List Int} {l : List R} (h : Wi X Y l) (dx dy : Int) : Wi (X.map (fun e => cutN (mvd e dx)) ++ [0]) (Y.map (fun e => cutN (mvd e dy)) ++ [0]) (l.map fun r => moveR r dx dy) := by
  intro s hs
  obtain ⟨r, hr, rfl⟩ := List.mem_map.1 hs
  have z1 : (0 : Int) ∈ X.map (fun e => cutN (mvd e dx)) ++ [0] := List.mem_append_right _ (List.mem_singleton.2 rfl)
  have z2 : (0 : Int) ∈ Y.map (fun e => cutN (mvd e dy)) ++ [0] := List.mem_append_right _ (List.mem_singleton.2 rfl)
  have hX : ∀ {e : Int}, e ∈ X → cutN (mvd e dx) ∈ X.map (fun e => cutN (mvd e dx)) ++ [0] := fun he => List.mem_append_left _ (List.mem_map.2 ⟨_, he, rfl⟩)
  have hY : ∀ {e : Int}, e ∈ Y → cutN (mvd e dy) ∈ Y.map (fun e => cutN (mvd e dy)) ++ [0] := fun he => List.mem_append_left _ (List.mem_map.2 ⟨_, he, rfl⟩)
  obtain ⟨⟨a1, a2⟩, a3, a4⟩ := h r hr
  have hn : ((nil.x0 ∈ X.map (fun e => cutN (mvd e dx)) ++ [0]) ∧ nil.x1 ∈ X.map (fun e => cutN (mvd e dx)) ++ [0]) ∧ (nil.y0 ∈ Y.map (fun e => cutN (mvd e dy)) ++ [0]) ∧ nil.y1 ∈ Y.map (fun e => cutN (mvd e dy)) ++ [0] := ⟨⟨z1, z1⟩, z2, z2⟩
  unfold moveR cutR
  split
  · exact hn
  · rcases orN_or ⟨cutN (mvd r.x0 dx), cutN (mvd r.y0 dy), cutN (mvd r.x1 dx), cutN (mvd r.y1 dy)⟩ with e | e
    · rw [e]; exact hn
    · rw [e]; exact ⟨⟨hX a1, hX a2⟩, hY a3, hY a4⟩
theorem wi_grow {X Y : List Int} {l : List R} (h : Wi X Y l) (k1 k2 k3 k4 : Int) : Wi (X.map (fun e => cutN (e - k1)) ++ (X.map (fun e => cutN (e + k3)) ++ [0])) (Y.map (fun e => cutN (e - k2)) ++ (Y.map (fun e => cutN (e + k4)) ++ [0])) (l.map fun r => grow r k1 k2 k3 k4) := by
  intro s hs
  obtain ⟨r, hr, rfl⟩ := List.mem_map.1 hs
  have z1 : (0 : Int) ∈ X.map (fun e => cutN (e - k1)) ++ (X.map (fun e => cutN (e + k3)) ++ [0]) := List.mem_append_right _ (List.mem_append_right _ (List.mem_singleton.2 rfl))
  have z2 : (0 : Int) ∈ Y.map (fun e => cutN (e - k2)) ++ (Y.map (fun e => cutN (e + k4)) ++ [0]) := List.mem_append_right _ (List.mem_append_right _ (List.mem_singleton.2 rfl))
  obtain ⟨⟨a1, a2⟩, a3, a4⟩ := h r hr
  unfold grow cutR
  split
  · exact ⟨⟨z1, z1⟩, z2, z2⟩
  · rcases orN_or ⟨cutN (r.x0 - k1), cutN (r.y0 - k2), cutN (r.x1 + k3), cutN (r.y1 + k4)⟩ with e | e
    · rw [e]; exact ⟨⟨z1, z1⟩, z2, z2⟩
    · rw [e]
      exact ⟨⟨List.mem_append_left _ (List.mem_map.2 ⟨_, a1, rfl⟩), List.mem_append_right _ (List.mem_append_left _ (List.mem_map.2 ⟨_, a2, rfl⟩))⟩, List.mem_append_left _ (List.mem_map.2 ⟨_, a3, rfl⟩), List.mem_append_right _ (List.mem_append_left _ (List.mem_map.2 ⟨_, a4, rfl⟩))⟩
end Go.Proofs.YteiihgoobhlkbaaDoor.Rg.Num
