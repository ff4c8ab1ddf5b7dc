/- What the laws call: contracts; what is known of a right filter. -/
import Derived.Test.YtamojciiacmjaaaDoorNdWalk
import Derived.Test.YtamojciiacmjaaaDoorNdRefAll
import Derived.Test.YtamojciiacmjaaaDoorOrdRef
import Derived.Test.YtamojciiacmjaaaDoorRefsA
namespace Go.Proofs.YtamojciiacmjaaaDoor
open Num Go.RowKit
open Rg.Num (R empB orN nil moveR grow meet join mvd mx mn cutR Ok Pr boxQ hasB)
set_option linter.unusedVariables false
set_option linter.unusedSimpArgs false
attribute [local go_sem ↓] Rg.eqR
attribute [local go_sem] Rg.eq4_same

theorem ofL_any (a b c d : Int) (w : World) :
    Calls Tryd.prog 20 #[.int .i64 a, .int .i64 b, .int .i64 c, .int .i64 d] w fun e w' => e = .returned (.agg #[.int .i64 a, .int .i64 b, .int .i64 c, .int .i64 d]) ∧ Below w.heap.size w w' := by
  go_enter Tryd.func20, Tryd.ntmps20
  go_wp2
  refine bodyPost_ret (v := .agg #[.int .i64 a, .int .i64 b, .int .i64 c, .int .i64 d]) (by simp [results, Tryd.results20, go_sem]) rfl ⟨rfl, ?_⟩
  go_grown

/-- is a filter right, of few nodes? -/
def rightG (L : List Nv) (out : Int) : Bool := fewB L 12 && decide (checkI L out = 0)
set_option maxRecDepth 100000 in
set_option maxHeartbeats 1000000 in
theorem right_any (ao : Option Addr) (n c b off : Nat) (L : List Nv) (out : Int) (w : World) (hT : Tabs w) (h : Vn w ao n c b off L) :
    Calls Tryd.prog 14 #[.agg #[.slice ao n c, .int .i64 out]] w fun e w' => e = .returned (.bool (rightG L out)) ∧ Below w.heap.size w w' := by
  have hl := vn_len h
  have HS := hid (sg_new w ao n c out 36)
  have H := hid (And.intro h hT)
  clear h hT
  rcases hfew : fewB L 12 with _ | _
  · have HF := hid hfew
    have hr : Hid (rightG L out = false) := hid (by unfold rightG; rw [hfew]; rfl)
    clear hfew
    go_enter Tryd.func14, Tryd.ntmps14
    go_wp2_with (go_at_call 32; with_reducible refine Calls.mono (few_any _ _ _ b off L _ 12 _ (H.out.1.below HS.out.2) (by decide)) ?_; rintro e w2 ⟨rfl, hb⟩; replace HS := hid (sg_below HS.out hb); rw [HF.out]; clear hb)
    go_ret
    exact ⟨ret_bool hr.out.symm, HS.out.2⟩
  · obtain ⟨hn, hf, -⟩ := few_of hl hfew (by decide)
    have HF := hid (And.intro hfew hf)
    have hr : Hid (rightG L out = decide (checkI L out = 0)) := hid (by unfold rightG; rw [hfew, Bool.true_and])
    clear hfew hf
    go_enter Tryd.func14, Tryd.ntmps14
    go_wp2_with (first
      | (go_at_call 32; with_reducible refine Calls.mono (few_any _ _ _ b off L _ 12 _ (H.out.1.below HS.out.2) (by decide)) ?_; rintro e w2 ⟨rfl, hb⟩; replace HS := hid (sg_below HS.out hb); obtain ⟨c0, c1⟩ := HS.out.1; rw [HF.out.1]; clear hb)
      | (go_at_call 33; with_reducible refine Calls.mono (refCheck_any _ _ _ b off L _ _ (H.out.2.below HS.out.2) (H.out.1.below HS.out.2) HF.out.2) ?_; rintro e w3 ⟨rfl, hb⟩; replace HS := hid (sg_below HS.out hb); clear hb c0 c1))
    go_ret
    exact ⟨ret_bool (by rw [hr.out]; first | rfl | simp), HS.out.2⟩

/-- a right node's parameters are within -/
theorem ins_at {p : List Int} {s c : Nat} {lo hi : Int} (h : allB (insB s c lo hi) p = true) : ∀ i, i < c → lo ≤ nth p (s + i) ∧ nth p (s + i) ≤ hi := (nearB_iff p s c lo hi).1 h
theorem pr_of {op : Int} {p : List Int} (h : allB (bnds op) p = true) : Pr op (nth p) := by
  have h1 : op = 1 → ∀ i, i < 2 → -1048576 ≤ nth p (0 + i) ∧ nth p (0 + i) ≤ 1048576 := fun e => by
    subst e; exact ins_at h
  have h11 : op = 11 → (∀ i, i < 2 → -1048576 ≤ nth p (0 + i) ∧ nth p (0 + i) ≤ 1048576) ∧ ∀ i, i < 2 → 0 ≤ nth p (2 + i) ∧ nth p (2 + i) ≤ 255 := fun e => by
    subst e
    have h' : allB (insB 0 2 (-1048576) 1048576 ++ (insB 2 2 0 255 ++ togB (insB 4 4 0 255) (pixB 4))) p = true := h
    rw [allB_app, allB_app, Bool.and_eq_true, Bool.and_eq_true] at h'
    exact ⟨ins_at h'.1, ins_at h'.2.1⟩
  have h2 : op = 2 ∨ op = 3 ∨ op = 4 → ∀ i, i < 2 → 0 ≤ nth p (0 + i) ∧ nth p (0 + i) ≤ 255 := fun e => by
    rcases e with rfl | rfl | rfl <;> exact ins_at h
  have h10 : op = 10 ∨ op = 12 → ∀ i, i < 4 → -1048576 ≤ nth p (0 + i) ∧ nth p (0 + i) ≤ 1048576 := fun e => by
    rcases e with rfl | rfl
    · have h' : allB (togB (insB 0 4 (-1048576) 1048576) tileB) p = true := h
      rw [allB_tog _ _ _ (insB_ne' (by decide)), Bool.and_eq_true] at h'
      exact ins_at h'.1
    · exact ins_at h
  refine ⟨fun e => ?_, fun e => ⟨h2 e 0 (by omega), h2 e 1 (by omega)⟩, fun e => ⟨(h11 e).2 0 (by omega), (h11 e).2 1 (by omega)⟩, fun e => ?_⟩
  · rcases e with e | e
    · exact ⟨h1 e 0 (by omega), h1 e 1 (by omega)⟩
    · exact ⟨(h11 e).1 0 (by omega), (h11 e).1 1 (by omega)⟩
  · have g0 := h10 e 0 (by omega)
    have g1 := h10 e 1 (by omega)
    have g2 := h10 e 2 (by omega)
    have g3 := h10 e 3 (by omega)
    simp only [Nat.zero_add] at g0 g1 g2 g3
    unfold Rg.Num.Ok boxQ
    dsimp only
    omega

theorem rn_one {op count : Int} {l p : List Int} (h : oneI op l p count = 0) : Rn op l p ∧ ∀ x, x ∈ l → inpB count x = true := by
  obtain ⟨h1, h2, h3, h4, h5, h6⟩ := one_ok h
  unfold kindB at h1
  rw [Bool.and_eq_true, decide_eq_true_eq, decide_eq_true_eq] at h1
  refine ⟨⟨h1, fun e => ?_, h4, pr_of h6⟩, fun x hx => List.all_eq_true.1 h5 x hx⟩
  subst e
  have : mostI 6 = 0 := by decide
  rw [this] at h3
  exact List.length_eq_zero_iff.1 (by omega)
/-- what is known of a right filter -/
structure Rf (n : Nat) (L : List Nv) (out : Int) : Prop where
  f : Few n L
  r : ∀ v, v ∈ L → Rn v.op v.l v.p
  a : roundB (insL L) = false
  o : 0 ≤ out ∧ out < (n : Int)
  i : ∀ v, v ∈ L → ∀ x, x ∈ v.l → Plc n x
  n0 : 0 < n
theorem rf_of {n : Nat} {L : List Nv} {out : Int} (hl : L.length = n) (h : rightG L out = true) : Rf n L out := by
  unfold rightG at h
  rw [Bool.and_eq_true, decide_eq_true_eq] at h
  obtain ⟨h0, h1, h2, h3, h4⟩ := check_ok h.2
  subst hl
  refine ⟨(few_of rfl h.1 (by decide)).2.1, fun v hv => (rn_one (h2 v hv)).1, h4, h3, fun v hv x hx => ?_, h0⟩
  have := (rn_one (h2 v hv)).2 x hx
  unfold inpB at this
  rw [Bool.or_eq_true, Bool.and_eq_true, decide_eq_true_eq, decide_eq_true_eq, decide_eq_true_eq] at this
  exact this
theorem Rf.plc {n : Nat} {L : List Nv} {out : Int} (h : Rf n L out) : Plc n out := Or.inr h.o

/-- what the program knows at the end -/
def runN (L : List Nv) (out : Int) (want : R) : St2 := (ordG (insL L)).reverse.foldl (stepP L) (startP L.length out want)
theorem run_asks {n : Nat} {L : List Nv} {out : Int} (hl : L.length = n) (h : Rf n L out) {want : R} (hw : Ok want) : Asks L out want (ordG (insL L)).reverse (runN L out want) := by
  subst hl
  have := asks_run (out := out) (want := want) h.a (fun v hv => (h.r v hv).pr) h.i h.plc hw (ordG (insL L)).length (Nat.le_refl _)
  rw [rev_all] at this
  exact this
theorem run_sol {n : Nat} {L : List Nv} {out : Int} (hl : L.length = n) (h : Rf n L out) {want : R} (hw : Ok want) : Sol L out want (fK (runN L out want).1) (runN L out want).2 := asks_sol h.a (run_asks hl h hw)
theorem run_len {n : Nat} {L : List Nv} {out : Int} (hl : L.length = n) (h : Rf n L out) {want : R} (hw : Ok want) : (runN L out want).1.length = n := by rw [(run_asks hl h hw).len, hl]
theorem run_ok {n : Nat} {L : List Nv} {out : Int} (hl : L.length = n) (h : Rf n L out) {want : R} (hw : Ok want) : Oks (runN L out want) := (run_asks hl h hw).ok
/-- the document's answer is the program's -/
theorem ref_run {n : Nat} {L : List Nv} {out : Int} (hl : L.length = n) (h : Rf n L out) {want : R} (hw : Ok want) {K : List R} (hK : Kn2 L out want 0 K) : K = (runN L out want).1 ∧ atG L out want (fK K) (-1) = (runN L out want).2 := by
  obtain ⟨h1, h2⟩ := sol_uniq h.a (kn2_end h.a hK) (run_sol hl h hw)
  refine ⟨fK_ext (by rw [hK.len, (run_asks hl h hw).len]) fun a ha => h1 a (by rw [← hK.len]; exact ha), h2⟩

set_option maxHeartbeats 1000000 in
theorem all_c {W : World} {ao : Option Addr} {n c b off : Nat} {L : List Nv} {out : Int} {p q r s : Int} (h : Vn W ao n c b off L) (hr : Rf n L out) (hok : Ok ⟨p, q, r, s⟩) :
    Calls Tryd.prog 15 #[.agg #[.slice ao n c, .int .i64 out], .agg #[.int .i64 p, .int .i64 q, .int .i64 r, .int .i64 s]] W fun e w' => ∃ kb : Nat, e = .returned (.tuple #[.slice (some ⟨kb, 0, none⟩) n n, .agg #[.int .i64 (runN L out ⟨p, q, r, s⟩).2.x0, .int .i64 (runN L out ⟨p, q, r, s⟩).2.y0, .int .i64 (runN L out ⟨p, q, r, s⟩).2.x1, .int .i64 (runN L out ⟨p, q, r, s⟩).2.y1]]) ∧ Hid (Rg.Ow W.heap.size w' (some ⟨kb, 0, none⟩) n n kb 0 (runN L out ⟨p, q, r, s⟩).1) ∧ Below W.heap.size W w' := by
  refine (allN_any ao n c b off L out p q r s W h hr.f hr.r hr.a hok hr.plc hr.i hr.n0).mono fun e w' hh => ?_
  obtain ⟨⟨st, kb, rfl, hO, hst⟩, hb⟩ := hh
  have e2 : st = runN L out ⟨p, q, r, s⟩ := by rw [hst]; unfold runN; rw [vn_len h]
  subst e2
  exact ⟨kb, rfl, hO, hb⟩
theorem refAll_c {W : World} {ao : Option Addr} {n c b off : Nat} {L : List Nv} {out : Int} {p q r s : Int} (h : Vn W ao n c b off L) (hr : Rf n L out) (hok : Ok ⟨p, q, r, s⟩) :
    Calls Tryd.prog 16 #[.agg #[.slice ao n c, .int .i64 out], .agg #[.int .i64 p, .int .i64 q, .int .i64 r, .int .i64 s]] W fun e w' => ∃ kb : Nat, e = .returned (.tuple #[.slice (some ⟨kb, 0, none⟩) n n, .agg #[.int .i64 (runN L out ⟨p, q, r, s⟩).2.x0, .int .i64 (runN L out ⟨p, q, r, s⟩).2.y0, .int .i64 (runN L out ⟨p, q, r, s⟩).2.x1, .int .i64 (runN L out ⟨p, q, r, s⟩).2.y1]]) ∧ Hid (Rg.Ow W.heap.size w' (some ⟨kb, 0, none⟩) n n kb 0 (runN L out ⟨p, q, r, s⟩).1) ∧ Below W.heap.size W w' := by
  refine (refAllN_any ao n c b off L out p q r s W h hr.f hr.r hr.a hok).mono fun e w' hh => ?_
  obtain ⟨⟨K, kb, rfl, hO, hK⟩, hb⟩ := hh
  obtain ⟨e1, e2⟩ := ref_run (vn_len h) hr hok hK
  rw [e2]
  subst e1
  exact ⟨kb, rfl, hO, hb⟩

set_option maxRecDepth 100000 in
set_option maxHeartbeats 1000000 in
theorem same_yes (ao : Option Addr) (n c b off : Nat) (ao' : Option Addr) (c' b' off' : Nat) (l : List R) (w : World) (h : Rg.Vw w ao n c b off l) (h' : Rg.Vw w ao' n c' b' off' l) :
    Calls Tryd.prog 11 #[.slice ao n c, .slice ao' n c'] w fun e w' => e = .returned (.bool true) ∧ Below w.heap.size w w' := by
  have hl := Rg.vw_len h
  have hn := Rg.vw_small h
  have H := hid (And.intro h (And.intro h' hl))
  clear h h' hl
  go_enter Tryd.func11, Tryd.ntmps11
  go_wp2
  go_loopg [5] n (fun g v5 wr => ∃ (wq : World) (k : Nat), wq = wr ∧ k ≤ n ∧ g = n - k ∧ v5 = .int .i64 k ∧ Below w.heap.size w wr)
  case atStart => exact ⟨_, 0, rfl, Nat.zero_le _, rfl, rfl, Below.refl _ _⟩
  case round =>
    obtain ⟨wq, k, rfl, hk, rfl, rfl, hB⟩ := hrel
    have HB := hid hB
    by_cases hlt : k < n
    · have hlz : (k : Int) < (n : Int) := by omega
      obtain ⟨r, hr⟩ : ∃ r, l[k]? = some r := ⟨_, List.getElem?_eq_getElem (by rw [H.out.2.2]; exact hlt)⟩
      obtain ⟨rfl, c0, c1, c2, c3⟩ := Rg.vw_at (Rg.Vz.below H.out.1 hB) hr
      obtain ⟨rfl, d0, d1, d2, d3⟩ := Rg.vw_at (Rg.Vz.below H.out.2.1 hB) hr
      clear hB hr
      go_wp2
      go_quiet (fail)
      go_wp2
      go_roundg (n - (k + 1))
      case measure => omega
      case rel => exact ⟨_, k + 1, rfl, hlt, rfl, by simp, below_drewN HB.out _⟩
    · obtain rfl : k = n := by omega
      clear hB
      go_wp2
      go_ret
      exact ⟨rfl, HB.out⟩
end Go.Proofs.YtamojciiacmjaaaDoor
