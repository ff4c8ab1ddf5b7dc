/- A region whose order is drawn, and whose last operation writes what its loads read: behind that one the held condition isn't asked. -/
import Derived.Deep.RegionHeld
namespace Go.Proofs.Ytleclkjinkbebaa
section
variable {P : Program} {ops : Array Oper} {Q : Exit → Act → World → Prop} {md : Region.Mode} {S : World → Prop} {z : Nat}

/-- whatever comes up next: S stands behind it, but for number z -/
def Late (P : Program) (md : Region.Mode) (ops : Array Oper) (Q : Exit → Act → World → Prop) (S : World → Prop) (z : Nat) : Nat → Array Bool → Act → World → Prop
  | 0, l, a, w => Region.ready md ops l = [] ∧ Q .normal a w
  | f + 1, l, a, w => (Region.ready md ops l = [] → Q .normal a w) ∧ ∀ j, j ∈ Region.ready md ops l → wpOp P ops Q j (fun a' w' => (j ≠ z → S w') ∧ Late P md ops Q S z f (l.setIfInBounds j true) a' w') a w

theorem late_any (f : Nat) : ∀ (l : Array Bool) (a : Act) (w : World), Late P md ops Q S z f l a w → wpAny P md ops Q f l a w := by
  induction f with
  | zero => exact fun _ _ _ h => h
  | succ f ih => exact fun l a w h => ⟨h.1, fun j hj => wpOp_mono (fun a' w' hh => ih _ a' w' hh.2) (h.2 j hj)⟩

/-- number z waits for number i -/
def waitsFor (md : Region.Mode) (ops : Array Oper) (z i : Nat) : Bool := match ops[z]? with
  | some o => o.after.any (fun e => Region.binds md e && e.on == i)
  | none => false
theorem waits_not {i : Nat} {l : Array Bool} (h : waitsFor md ops z i = true) (hi : i ∈ Region.ready md ops l) : z ∉ Region.ready md ops l := by
  intro hz
  obtain ⟨-, o, ho, hall⟩ := mem_ready.1 hz
  have h0 := (mem_ready.1 hi).1
  unfold waitsFor at h
  rw [ho] at h
  dsimp only at h
  rw [← Array.any_toList] at h
  obtain ⟨e, he, hb⟩ := List.any_eq_true.1 h
  rw [Bool.and_eq_true, beq_iff_eq] at hb
  replace he := Array.mem_toList_iff.1 he
  have h1 := hall e he hb.1
  rw [hb.2] at h1
  by_cases hs : i < l.size
  · simp [hs] at h0 h1
    rw [h0] at h1
    cases h1
  · simp [Array.getElem?_eq_none (Nat.le_of_not_lt hs)] at h1

theorem late_first {i : Nat} {oi : Oper} {v : Value} (hi : ops[i]? = some oi) (hsel : Region.noSelect ops = true) (hQ : ∀ c a w, Q (.panic c) (a.put oi.dst v) w → Q (.panic c) a w) (hz : waitsFor md ops z i = true) (f : Nat) :
    ∀ (l : Array Bool) (a : Act) (w : World), (∀ j oj, ops[j]? = some oj → j ≠ i → l.getD j true = false → (∀ e ∈ oj.after, Region.binds md e = true → e.on ≠ i) → oi.apart ops oj = true) →
      i ∈ Region.ready md ops l → YieldsIf P ops S oi v a → S w → Late P md ops Q S z f (l.setIfInBounds i true) (a.put oi.dst v) w → Late P md ops Q S z (f + 1) l a w := by
  have sel := Region.noSelect_spec hsel
  induction f with
  | zero =>
    intro l a w _ hr hy hS H
    refine ⟨fun h => absurd (h ▸ hr) (by simp), fun j hj => ?_⟩
    by_cases e : j = i
    · rw [e]; exact hy.wpOp hi hS ⟨fun _ => hS, H⟩
    · exact absurd (H.1 ▸ ready_mono hj e) (by simp)
  | succ f ih =>
    intro l a w hfree hr hy hS H
    refine ⟨fun h => absurd (h ▸ hr) (by simp), fun j hj => ?_⟩
    by_cases e : j = i
    · rw [e]; exact hy.wpOp hi hS ⟨fun _ => hS, H⟩
    have hjz : j ≠ z := fun h => waits_not hz hr (h ▸ hj)
    obtain ⟨hju, oj, hoj, hall⟩ := mem_ready.1 hj
    have far : ∀ x ∈ oj.after, Region.binds md x = true → x.on ≠ i := fun x hx hb hxi => by
      have : waitsFor md ops j i = true := by
        unfold waitsFor
        rw [hoj]
        dsimp only
        rw [← Array.any_toList]
        exact List.any_eq_true.2 ⟨x, Array.mem_toList_iff.2 hx, by rw [hb, hxi]; simp⟩
      exact waits_not this hr hj
    refine wpOp_mono (fun a' w' h3 => ⟨fun _ => h3.2.1 hjz, ih (l.setIfInBounds j true) a' w' (fun k ok hk hki hun hno => hfree k ok hk hki ?_ hno) (ready_mono hr (Ne.symm e)) h3.1 (h3.2.1 hjz) (by rw [Array.setIfInBounds_comm _ _ e]; exact h3.2.2)⟩)
      (wpOp_putIf hoj (hfree j oj hoj e hju far) (fun cs b => sel i oi cs b hi) (fun cs b => sel j oj cs b hoj) hQ hy (H.2 j (ready_mono hj e)))
    by_cases hjk : j = k
    · rw [← hjk]; exact hju
    · rw [getD_set_ne true hjk] at hun; exact hun

/-- number i, which yields the same in every world that meets S, is taken first -/
theorem late_take {i : Nat} {oi : Oper} {v : Value} {f : Nat} {l : Array Bool} {a : Act} {w : World} (hi : ops[i]? = some oi) (hs : Region.noSelect ops = true) (hf : Region.free md ops l i = true) (hr : (Region.ready md ops l).contains i = true) (hz : waitsFor md ops z i = true)
    (hQ : ∀ c a w, Q (.panic c) (a.put oi.dst v) w → Q (.panic c) a w) (hy : YieldsIf P ops S oi v a) (hS : S w) (h : Late P md ops Q S z f (l.setIfInBounds i true) (a.put oi.dst v) w) : Late P md ops Q S z (f + 1) l a w :=
  late_first hi hs hQ hz f l a w (Region.free_spec hi hf) (by simpa using hr) hy hS h
theorem late_done {l : Array Bool} {a : Act} {w : World} (hr : Region.ready md ops l = []) (h : Q .normal a w) : ∀ f, Late P md ops Q S z f l a w
  | 0 => ⟨hr, h⟩
  | _ + 1 => ⟨fun _ => h, by rw [hr]; simp⟩

/-- each of these comes up next -/
def Lates (P : Program) (md : Region.Mode) (ops : Array Oper) (Q : Exit → Act → World → Prop) (S : World → Prop) (z f : Nat) (l : Array Bool) (a : Act) (w : World) (rs : List Nat) : Prop :=
  ∀ j, j ∈ rs → wpOp P ops Q j (fun a' w' => (j ≠ z → S w') ∧ Late P md ops Q S z f (l.setIfInBounds j true) a' w') a w
theorem lates_nil {f : Nat} {l : Array Bool} {a : Act} {w : World} : Lates P md ops Q S z f l a w [] := fun _ h => by cases h
theorem lates_cons {f : Nat} {l : Array Bool} {a : Act} {w : World} {j : Nat} {o : Oper} {rs : List Nat} (ho : ops[j]? = some o)
    (h : ∀ K : Act → World → Prop, Shut (∀ a w, S w → (S w → Late P md ops Q S z f (l.setIfInBounds j true) a w) → K a w) → if Region.wanted o (yielded ops a.tmps) = true then Oper.wp P o a w K Q else K (a.put o.dst undef) w)
    (hs : Lates P md ops Q S z f l a w rs) : Lates P md ops Q S z f l a w (j :: rs) := fun k hk => by
  rcases List.mem_cons.1 hk with rfl | hk
  · exact wpOp_step ho (fun K hK => h K (fun a w hS hW => hK a w ⟨fun _ => hS, hW hS⟩))
  · exact hs k hk
/-- number z itself -/
theorem lates_last {f : Nat} {l : Array Bool} {a : Act} {w : World} {o : Oper} (ho : ops[z]? = some o)
    (h : ∀ K : Act → World → Prop, Shut (∀ a w, Late P md ops Q S z f (l.setIfInBounds z true) a w → K a w) → if Region.wanted o (yielded ops a.tmps) = true then Oper.wp P o a w K Q else K (a.put o.dst undef) w) : Lates P md ops Q S z f l a w [z] := fun k hk => by
  rcases List.mem_cons.1 hk with rfl | hk
  · exact wpOp_step ho (fun K hK => h K (fun a w hW => hK a w ⟨fun e => absurd rfl e, hW⟩))
  · cases hk
theorem late_ready {rs : List Nat} {f : Nat} {l : Array Bool} {a : Act} {w : World} (hr : Region.ready md ops l = rs) (hne : rs ≠ []) (h : Lates P md ops Q S z f l a w rs) : Late P md ops Q S z (f + 1) l a w :=
  ⟨fun h0 => absurd (hr ▸ h0) hne, hr ▸ h⟩
theorem wp_region_late {id : Nat} {a : Act} {w : World} (z : Nat) (hm : P.follows .mixedOrders = true) (hS : S w.drew) (h : S w.drew → Late P .any ops Q S z ops.size (Array.replicate ops.size false) a w.drew) : (Code.region id ops true).wp P Q a w :=
  wp_region_any hm (late_any _ _ _ _ (h hS))
end
end Go.Proofs.Ytleclkjinkbebaa
