/- A filter's spread, node by node in the order: plain functions of lists; what holds of all that is known. -/
import Derived.Test.YteiihgoobhlkbaaDoorFoIn
namespace Go.Proofs.YteiihgoobhlkbaaDoor
open Num Go.RowKit
open Rg.Num (Inv Pr spA allJ mvL grL oneS boxQ allR setsL orF andF Fits Sub SubL)
set_option linter.unusedVariables false
set_option linter.unusedSimpArgs false

def pickL (K : List (List Rg.Num.R)) (x : Int) : List Rg.Num.R := if 0 ≤ x ∧ x < (K.length : Int) then K.getD x.toNat [] else []
def inLs (s : List Rg.Num.R) (K : List (List Rg.Num.R)) (x : Int) : List Rg.Num.R := if x = -1 then s else pickL K x
/-- what a node makes of what is known -/
def makeG (v : Nv) (s : List Rg.Num.R) (K : List (List Rg.Num.R)) : List Rg.Num.R := spA v.op (nth v.p) (allJ (v.l.map (inLs s K)))
def stepG (L : List Nv) (N : List Bool) (s : List Rg.Num.R) (K : List (List Rg.Num.R)) (a : Nat) : List (List Rg.Num.R) := match L[a]? with
  | some v => if bt N a = true then K.set a (makeG v s K) else K
  | none => K
def runG (L : List Nv) (N : List Bool) (s : List Rg.Num.R) (o : List Nat) (K : List (List Rg.Num.R)) : List (List Rg.Num.R) := o.foldl (stepG L N s) K
def spreadG (L : List Nv) (N : List Bool) (out : Int) (s : List Rg.Num.R) : List Rg.Num.R := pickL (runG L N s (ordG (insL L)) (List.replicate L.length [])) out

theorem pickV_l (K : List Rv) (x : Int) : (pickV K x).l = pickL (K.map Rv.l) x := by
  unfold pickV pickL
  rw [List.length_map]
  split
  · rename_i h
    have hlt : x.toNat < K.length := by omega
    rw [List.getD_eq_getElem?_getD, List.getElem?_eq_getElem hlt, List.getD_eq_getElem?_getD, List.getElem?_map, List.getElem?_eq_getElem hlt]
    rfl
  · rfl
theorem inV_l (s : Rv) (K : List Rv) (x : Int) : (inV s K x).l = inLs s.l (K.map Rv.l) x := by
  unfold inV inLs
  split
  · rfl
  · exact pickV_l K x
theorem inV_map (s : Rv) (K : List Rv) (l : List Int) : (l.map (inV s K)).map Rv.l = l.map (inLs s.l (K.map Rv.l)) := by
  rw [List.map_map]
  exact List.map_congr_left fun x _ => inV_l s K x
theorem step_yes {L : List Nv} {N : List Bool} {a : Nat} {v : Nv} (hv : L[a]? = some v) (hN : bt N a = true) (s : List Rg.Num.R) (K : List (List Rg.Num.R)) : stepG L N s K a = K.set a (makeG v s K) := by
  unfold stepG; rw [hv]; dsimp only; rw [if_pos hN]
theorem step_no {L : List Nv} {N : List Bool} {a : Nat} (hN : bt N a = false) (s : List Rg.Num.R) (K : List (List Rg.Num.R)) : stepG L N s K a = K := by
  unfold stepG
  split
  · rw [if_neg (by simp [hN])]
  · rfl
theorem run_cons {L : List Nv} {N : List Bool} {s : List Rg.Num.R} {o : List Nat} {k a : Nat} (h : o[k]? = some a) (K : List (List Rg.Num.R)) : runG L N s (o.drop k) K = runG L N s (o.drop (k + 1)) (stepG L N s K a) := by
  obtain ⟨hk, rfl⟩ := List.getElem?_eq_some_iff.1 h
  unfold runG
  rw [List.drop_eq_getElem_cons hk]
  rfl
theorem step_len (L : List Nv) (N : List Bool) (s : List Rg.Num.R) (K : List (List Rg.Num.R)) (a : Nat) : (stepG L N s K a).length = K.length := by
  unfold stepG
  split
  · split
    · rw [List.length_set]
    · rfl
  · rfl

/-- how many edges there may be behind so many nodes -/
def Sz : Nat → Nat
  | 0 => 24
  | k + 1 => 3 * Sz k + 8
theorem sz_6 {k : Nat} (h : k ≤ 6) : Sz k ≤ 30000 := by
  have : k = 0 ∨ k = 1 ∨ k = 2 ∨ k = 3 ∨ k = 4 ∨ k = 5 ∨ k = 6 := by omega
  rcases this with rfl | rfl | rfl | rfl | rfl | rfl | rfl <;> decide
theorem sz_up (k : Nat) : Sz k ≤ Sz (k + 1) := by show Sz k ≤ 3 * Sz k + 8; omega
/-- all that is known are right regions, with edges among these -/
structure Ik (X Y : List Int) (s : List Rg.Num.R) (K : List (List Rg.Num.R)) : Prop where
  s : Inv X Y s
  k : ∀ l, l ∈ K → Inv X Y l
def IK (k : Nat) (s : List Rg.Num.R) (K : List (List Rg.Num.R)) : Prop := ∃ X Y : List Int, X.length ≤ Sz k ∧ Y.length ≤ Sz k ∧ Ik X Y s K
theorem ik_pick {X Y : List Int} {s : List Rg.Num.R} {K : List (List Rg.Num.R)} (h : Ik X Y s K) (x : Int) : Inv X Y (pickL K x) := by
  unfold pickL
  split
  · rename_i hx
    have hlt : x.toNat < K.length := by omega
    rw [List.getD_eq_getElem?_getD, List.getElem?_eq_getElem hlt]
    exact h.k _ (List.getElem_mem hlt)
  · exact Rg.Num.inv_nil X Y
theorem ik_in {X Y : List Int} {s : List Rg.Num.R} {K : List (List Rg.Num.R)} (h : Ik X Y s K) (x : Int) : Inv X Y (inLs s K x) := by
  unfold inLs
  split
  · exact h.s
  · exact ik_pick h x
theorem ik_all {X Y : List Int} {s : List Rg.Num.R} {K : List (List Rg.Num.R)} (h : Ik X Y s K) (l : List Int) : Inv X Y (allJ (l.map (inLs s K))) := Rg.Num.inv_allJ fun m hm => by
  obtain ⟨x, -, rfl⟩ := List.mem_map.1 hm
  exact ik_in h x
theorem ik_next {k : Nat} {s : List Rg.Num.R} {K : List (List Rg.Num.R)} (h : IK k s K) : IK (k + 1) s K := by
  obtain ⟨X, Y, h1, h2, h3⟩ := h
  exact ⟨X, Y, Nat.le_trans h1 (sz_up k), Nat.le_trans h2 (sz_up k), h3⟩
theorem ik_set {k : Nat} {s : List Rg.Num.R} {K : List (List Rg.Num.R)} (h : IK k s K) {v : Nv} (hp : Pr v.op (nth v.p)) (a : Nat) : IK (k + 1) s (K.set a (makeG v s K)) := by
  obtain ⟨X, Y, h1, h2, h3⟩ := h
  obtain ⟨X', Y', g1, g2, g3, g4, g5⟩ := Rg.Num.inv_sp hp (ik_all h3 v.l)
  refine ⟨X', Y', Nat.le_trans g1 (by show _ ≤ 3 * Sz k + 8; omega), Nat.le_trans g2 (by show _ ≤ 3 * Sz k + 8; omega), ⟨Rg.Num.inv_mono h3.s g3 g4, fun l hl => ?_⟩⟩
  rcases List.mem_or_eq_of_mem_set hl with hl | rfl
  · exact Rg.Num.inv_mono (h3.k l hl) g3 g4
  · exact g5
theorem ik_step {L : List Nv} (hp : ∀ v, v ∈ L → Pr v.op (nth v.p)) {N : List Bool} {k : Nat} {s : List Rg.Num.R} {K : List (List Rg.Num.R)} (h : IK k s K) (a : Nat) : IK (k + 1) s (stepG L N s K a) := by
  unfold stepG
  split
  · rename_i v hv
    split
    · exact ik_set h (hp v (List.mem_of_getElem? hv)) a
    · exact ik_next h
  · exact ik_next h
theorem ik_run {L : List Nv} (hp : ∀ v, v ∈ L → Pr v.op (nth v.p)) {N : List Bool} {s : List Rg.Num.R} : ∀ (o : List Nat) {k : Nat} {K : List (List Rg.Num.R)}, IK k s K → IK (k + o.length) s (runG L N s o K)
  | [], _, _, h => h
  | a :: o, k, K, h => by
    have := ik_run hp (N := N) o (ik_step hp (N := N) h a)
    rw [show k + (a :: o).length = k + 1 + o.length by simp only [List.length_cons]; omega]
    exact this

/-- a greater region spreads no less -/
theorem subL_get : ∀ {K M : List (List Rg.Num.R)}, SubL K M → ∀ i, Sub (K.getD i []) (M.getD i [])
  | [], [], _, i => Rg.Num.sub_refl _
  | l :: K, m :: M, h, 0 => h.1
  | l :: K, m :: M, h, i + 1 => by
    have := subL_get h.2 i
    simpa using this
  | [], m :: M, h, i => h.elim
  | l :: K, [], h, i => h.elim
theorem subL_len : ∀ {K M : List (List Rg.Num.R)}, SubL K M → K.length = M.length
  | [], [], _ => rfl
  | l :: K, m :: M, h => by simp only [List.length_cons]; rw [subL_len h.2]
  | [], m :: M, h => h.elim
  | l :: K, [], h => h.elim
theorem subL_set : ∀ {K M : List (List Rg.Num.R)}, SubL K M → ∀ (i : Nat) {l m : List Rg.Num.R}, Sub l m → SubL (K.set i l) (M.set i m)
  | [], [], _, i, l, m, _ => trivial
  | _ :: K, _ :: M, h, 0, l, m, hs => ⟨hs, h.2⟩
  | _ :: K, _ :: M, h, i + 1, l, m, hs => ⟨h.1, subL_set h.2 i hs⟩
  | [], m :: M, h, i, _, _, _ => h.elim
  | l :: K, [], h, i, _, _, _ => h.elim
theorem subL_rep (n : Nat) (l : List Rg.Num.R) : SubL (List.replicate n l) (List.replicate n l) := by
  induction n with
  | zero => trivial
  | succ n ih => exact ⟨Rg.Num.sub_refl _, ih⟩
theorem subL_map (f g : Int → List Rg.Num.R) (h : ∀ x, Sub (f x) (g x)) : ∀ l : List Int, SubL (l.map f) (l.map g)
  | [] => trivial
  | x :: l => ⟨h x, subL_map f g h l⟩
theorem sub_pick {K M : List (List Rg.Num.R)} (h : SubL K M) (x : Int) : Sub (pickL K x) (pickL M x) := by
  unfold pickL
  rw [subL_len h]
  split
  · exact subL_get h _
  · exact Rg.Num.sub_refl _
theorem sub_in {s t : List Rg.Num.R} (hs : Sub s t) {K M : List (List Rg.Num.R)} (h : SubL K M) (x : Int) : Sub (inLs s K x) (inLs t M x) := by
  unfold inLs
  split
  · exact hs
  · exact sub_pick h x
theorem sub_step {L : List Nv} (hp : ∀ v, v ∈ L → Pr v.op (nth v.p)) (N : List Bool) {s t : List Rg.Num.R} (hs : Sub s t) {K M : List (List Rg.Num.R)} {j k : Nat} (hK : IK j s K) (hM : IK k t M) (h : SubL K M) (a : Nat) : SubL (stepG L N s K a) (stepG L N t M a) := by
  obtain ⟨X, Y, -, -, h3⟩ := hK
  obtain ⟨X', Y', -, -, h3'⟩ := hM
  unfold stepG
  split
  · rename_i v hv
    split
    · exact subL_set h a (Rg.Num.sub_sp (hp v (List.mem_of_getElem? hv)) (ik_all h3 v.l) (ik_all h3' v.l) (Rg.Num.sub_allJ (subL_map _ _ (fun x => sub_in hs h x) v.l)))
    · exact h
  · exact h
theorem sub_run {L : List Nv} (hp : ∀ v, v ∈ L → Pr v.op (nth v.p)) (N : List Bool) {s t : List Rg.Num.R} (hs : Sub s t) : ∀ (o : List Nat) {K M : List (List Rg.Num.R)} {j k : Nat}, IK j s K → IK k t M → SubL K M → SubL (runG L N s o K) (runG L N t o M)
  | [], _, _, _, _, _, _, h => h
  | a :: o, K, M, j, k, hK, hM, h => sub_run hp N hs o (ik_step hp hK a) (ik_step hp hM a) (sub_step hp N hs hK hM h a)
theorem ik_start {X Y : List Int} {s : List Rg.Num.R} (h : Inv X Y s) (hX : X.length ≤ 24) (hY : Y.length ≤ 24) (n : Nat) : IK 0 s (List.replicate n []) :=
  ⟨X, Y, hX, hY, ⟨h, fun l hl => by rw [List.mem_replicate] at hl; rw [hl.2]; exact Rg.Num.inv_nil X Y⟩⟩
theorem sub_spread {L : List Nv} (hp : ∀ v, v ∈ L → Pr v.op (nth v.p)) (N : List Bool) (out : Int) {s t : List Rg.Num.R} (hs : Sub s t) (h : IK 0 s (List.replicate L.length [])) (h' : IK 0 t (List.replicate L.length [])) : Sub (spreadG L N out s) (spreadG L N out t) :=
  sub_pick (sub_run hp N hs _ h h' (subL_rep _ _)) out
/-- nothing spreads to nothing -/
theorem none_run {L : List Nv} (N : List Bool) : ∀ (o : List Nat) {K : List (List Rg.Num.R)}, (∀ l, l ∈ K → l = []) → ∀ l, l ∈ runG L N [] o K → l = []
  | [], _, h => h
  | a :: o, K, h => by
    refine none_run N o (K := stepG L N [] K a) fun l hl => ?_
    have hpk : ∀ x, pickL K x = [] := fun x => by
      unfold pickL
      split
      · rename_i hx
        have hlt : x.toNat < K.length := by omega
        rw [List.getD_eq_getElem?_getD, List.getElem?_eq_getElem hlt]
        exact h _ (List.getElem_mem hlt)
      · rfl
    unfold stepG at hl
    split at hl
    · rename_i v hv
      split at hl
      · rcases List.mem_or_eq_of_mem_set hl with hl | rfl
        · exact h l hl
        · unfold makeG
          rw [Rg.Num.allJ_nil _ fun m hm => ?_, Rg.Num.sp_nil]
          obtain ⟨x, -, rfl⟩ := List.mem_map.1 hm
          unfold inLs
          rw [hpk, ite_self]
      · exact h l hl
    · exact h l hl
theorem none_spread (L : List Nv) (N : List Bool) (out : Int) : spreadG L N out [] = [] := by
  have h := none_run (L := L) N (ordG (insL L)) (K := List.replicate L.length []) fun l hl => (List.mem_replicate.1 hl).2
  unfold spreadG pickL
  split
  · rename_i hx
    have hlt : out.toNat < (runG L N [] (ordG (insL L)) (List.replicate L.length [])).length := by omega
    rw [List.getD_eq_getElem?_getD, List.getElem?_eq_getElem hlt]
    exact h _ (List.getElem_mem hlt)
  · rfl
theorem ord_len (L : List Nv) : (ordG (insL L)).length ≤ L.length := by
  have h := ordG_ord (insL L)
  have := nodup_len _ h.nodup h.lt
  rw [insL_len] at this
  exact this

/-- a right node's parameters are within -/
theorem ins_at {p : List Int} {s c : Nat} {lo hi : Int} (h : allB (insB s c lo hi) p = true) : ∀ i, i < c → lo ≤ nth p (s + i) ∧ nth p (s + i) ≤ hi := (nearB_iff p s c lo hi).1 h
theorem pr_of {op : Int} {p : List Int} (h : allB (bnds op) p = true) : Pr op (nth p) := by
  have h1 : op = 1 → ∀ i, i < 2 → -1048576 ≤ nth p (0 + i) ∧ nth p (0 + i) ≤ 1048576 := fun e => by
    subst e; exact ins_at h
  have h11 : op = 11 → (∀ i, i < 2 → -1048576 ≤ nth p (0 + i) ∧ nth p (0 + i) ≤ 1048576) ∧ ∀ i, i < 2 → 0 ≤ nth p (2 + i) ∧ nth p (2 + i) ≤ 255 := fun e => by
    subst e
    have h' : allB (insB 0 2 (-1048576) 1048576 ++ (insB 2 2 0 255 ++ togB (insB 4 4 0 255) (pixB 4))) p = true := h
    rw [allB_app, allB_app, Bool.and_eq_true, Bool.and_eq_true] at h'
    exact ⟨ins_at h'.1, ins_at h'.2.1⟩
  have h2 : op = 2 ∨ op = 3 ∨ op = 4 → ∀ i, i < 2 → 0 ≤ nth p (0 + i) ∧ nth p (0 + i) ≤ 255 := fun e => by
    rcases e with rfl | rfl | rfl <;> exact ins_at h
  have h10 : op = 10 ∨ op = 12 → ∀ i, i < 4 → -1048576 ≤ nth p (0 + i) ∧ nth p (0 + i) ≤ 1048576 := fun e => by
    rcases e with rfl | rfl
    · have h' : allB (togB (insB 0 4 (-1048576) 1048576) tileB) p = true := h
      rw [allB_tog _ _ _ (insB_ne' (by decide)), Bool.and_eq_true] at h'
      exact ins_at h'.1
    · exact ins_at h
  refine ⟨fun e => ?_, fun e => ⟨h2 e 0 (by omega), h2 e 1 (by omega)⟩, fun e => ⟨(h11 e).2 0 (by omega), (h11 e).2 1 (by omega)⟩, fun e => ?_⟩
  · rcases e with e | e
    · exact ⟨h1 e 0 (by omega), h1 e 1 (by omega)⟩
    · exact ⟨(h11 e).1 0 (by omega), (h11 e).1 1 (by omega)⟩
  · have g0 := h10 e 0 (by omega)
    have g1 := h10 e 1 (by omega)
    have g2 := h10 e 2 (by omega)
    have g3 := h10 e 3 (by omega)
    simp only [Nat.zero_add] at g0 g1 g2 g3
    unfold Rg.Num.Ok boxQ
    dsimp only
    omega
theorem pr_all {L : List Nv} {out : Int} (h : checkI L out = 0) : ∀ v, v ∈ L → Pr v.op (nth v.p) := fun v hv => pr_of (one_ok ((check_ok h).2.2.1 v hv)).2.2.2.2.2
end Go.Proofs.YteiihgoobhlkbaaDoor
