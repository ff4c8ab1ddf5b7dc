/- What a law's walk stands on: a filter's spread of a region that lies somewhere, and what is cut of what. -/
import Derived.Test.YteiihgoobhlkbaaDoorFoAwk
namespace Go.Proofs.YteiihgoobhlkbaaDoor
open Num Go.RowKit
open Rg.Num (Pr Ok Inv Wi setsL orF cutF Sub)
set_option linter.unusedVariables false
set_option linter.unusedSimpArgs false

theorem spread_l {W : World} {ao : Option Addr} {n c b off : Nat} {L : List Nv} {out : Int} {ai : Option Addr} {m k q o : Nat} {l : List RR} (h : Vn W ao n c b off L) (hf : Few n L) (hv : Rg.Vw W ai m k q o l) (hp : ∀ v, v ∈ L → Pr v.op (nth v.p)) (hn6 : n ≤ 6) (hI : IK 0 l (List.replicate L.length [])) :
    Calls Tryd.prog 9 #[.agg #[.slice ao n c, .int .i64 out], .slice ai m k] W fun e w' => (∃ N, Nd (insL L) out N ∧ Rg.RetO W.heap.size w' e (spreadG L N out l)) ∧ Below W.heap.size W w' :=
  spreadAll_any ao n c b off L out ⟨ai, m, k, q, o, l⟩ W h hf hv hp hn6 hI
theorem inv_spread {L : List Nv} (hp : ∀ v, v ∈ L → Pr v.op (nth v.p)) (hn : L.length ≤ 6) (N : List Bool) (out : Int) {s : List RR} (h : IK 0 s (List.replicate L.length [])) : ∃ X Y : List Int, X.length ≤ 30000 ∧ Y.length ≤ 30000 ∧ Inv X Y (spreadG L N out s) := by
  obtain ⟨X, Y, h1, h2, h3⟩ := ik_run hp (N := N) (ordG (insL L)) h
  have hk : 0 + (ordG (insL L)).length ≤ 6 := by have := ord_len L; omega
  exact ⟨X, Y, Nat.le_trans h1 (sz_6 hk), Nat.le_trans h2 (sz_6 hk), ik_pick h3 out⟩
theorem ik_reg {l : List RR} (h : regG l = true) (n : Nat) : IK 0 l (List.replicate n []) := by
  obtain ⟨h6, hI⟩ := reg_inv h
  exact ik_start hI (by simp; omega) (by simp; omega) n
theorem ik_both {l m : List RR} (h : regG l = true) (h' : regG m = true) (n : Nat) : IK 0 (setsL orF l m) (List.replicate n []) := by
  obtain ⟨h6, hI⟩ := reg_inv h
  obtain ⟨h6', hI'⟩ := reg_inv h'
  have ha := Rg.Num.inv_mono (X' := (l.map Rg.Num.R.x0 ++ l.map Rg.Num.R.x1) ++ (m.map Rg.Num.R.x0 ++ m.map Rg.Num.R.x1)) (Y' := (l.map Rg.Num.R.y0 ++ l.map Rg.Num.R.y1) ++ (m.map Rg.Num.R.y0 ++ m.map Rg.Num.R.y1)) hI Rg.Num.inL' Rg.Num.inL'
  have hb := Rg.Num.inv_mono (X' := (l.map Rg.Num.R.x0 ++ l.map Rg.Num.R.x1) ++ (m.map Rg.Num.R.x0 ++ m.map Rg.Num.R.x1)) (Y' := (l.map Rg.Num.R.y0 ++ l.map Rg.Num.R.y1) ++ (m.map Rg.Num.R.y0 ++ m.map Rg.Num.R.y1)) hI' Rg.Num.inR' Rg.Num.inR'
  exact ik_start (Rg.Num.inv_sets Rg.Num.fits_or ha.ok hb.ok ha.wi hb.wi) (by simp; omega) (by simp; omega) n
/-- what a greater region spreads to is cut away: nothing is left -/
theorem cut_c {W : World} {ao : Option Addr} {n c b off : Nat} {l : List RR} {ao' : Option Addr} {n' c' b' off' : Nat} {l' : List RR} (h : Rg.Vw W ao n c b off l) (h' : Rg.Vw W ao' n' c' b' off' l')
    (hi : ∃ X Y : List Int, X.length ≤ 30000 ∧ Y.length ≤ 30000 ∧ Inv X Y l) (hi' : ∃ X Y : List Int, X.length ≤ 30000 ∧ Y.length ≤ 30000 ∧ Inv X Y l') (hs : Sub l l') :
    Calls Tryd.prog 8 #[.slice ao n c, .slice ao' n' c', .int .i64 2] W fun e w' => ∃ ao3 c3, e = .returned (.slice ao3 0 c3) ∧ Below W.heap.size W w' := by
  obtain ⟨X, Y, hX, hY, hI⟩ := hi
  obtain ⟨X', Y', hX', hY', hI'⟩ := hi'
  have l1 : l.length ≤ 30000 * 30000 := Nat.le_trans (Rg.Num.reg_few hI.reg hI.wi) (Nat.mul_le_mul hY hX)
  have l2 : l'.length ≤ 30000 * 30000 := Nat.le_trans (Rg.Num.reg_few hI'.reg hI'.wi) (Nat.mul_le_mul hY' hX')
  have hw : Wi (X ++ X') (Y ++ Y') (l ++ l') := Rg.Num.wi_app (Rg.Num.inv_mono hI Rg.Num.inL' Rg.Num.inL').wi (Rg.Num.inv_mono hI' Rg.Num.inR' Rg.Num.inR').wi
  refine (Rg.sets_wide 2 cutF (Or.inr (Or.inr ⟨rfl, rfl⟩)) W ao n c b off l ao' n' c' b' off' l' h h' (by omega) (fun k => ?_) (fun k => ?_)).mono fun e w' hh => ?_
  · have := Rg.Num.xs_few (Rg.Num.wi_take hw k)
    rw [List.length_append] at this
    omega
  · have := Rg.Num.ys_few (Rg.Num.wi_take hw k)
    rw [List.length_append] at this
    omega
  · obtain ⟨⟨ao3, n3, c3, b3, o3, rfl, hO⟩, hb⟩ := hh
    rw [Rg.Num.cut_none hI.ok hI'.ok hs] at hO
    have hn : n3 = 0 := (Rg.vw_len hO.v).symm
    subst hn
    exact ⟨ao3, c3, rfl, hb⟩
theorem both_c {W : World} {ao : Option Addr} {n c b off : Nat} {l : List RR} {ao' : Option Addr} {n' c' b' off' : Nat} {l' : List RR} (h : Rg.Vw W ao n c b off l) (h' : Rg.Vw W ao' n' c' b' off' l') (h6 : l.length + l'.length ≤ 1000) :
    Calls Tryd.prog 8 #[.slice ao n c, .slice ao' n' c', .int .i64 0] W fun e w' => Rg.RetO W.heap.size w' e (setsL orF l l') ∧ Below W.heap.size W w' :=
  Rg.sets_any 0 orF (Or.inl ⟨rfl, rfl⟩) W ao n c b off l ao' n' c' b' off' l' h h' h6
/-- what nothing spreads to -/
theorem none_c {W : World} {ao : Option Addr} {n c b off : Nat} {L : List Nv} {out : Int} (h : Vn W ao n c b off L) (hf : Few n L) (hp : ∀ v, v ∈ L → Pr v.op (nth v.p)) (hn6 : n ≤ 6) :
    Calls Tryd.prog 9 #[.agg #[.slice ao n c, .int .i64 out], .slice none 0 0] W fun e w' => ∃ ao3 c3, e = .returned (.slice ao3 0 c3) ∧ Below W.heap.size W w' := by
  refine (spread_l h hf (rw_nil W) hp hn6 (ik_start (Rg.Num.inv_nil [] []) (by decide) (by decide) _)).mono fun e w' hh => ?_
  obtain ⟨⟨N, hN, ao3, n3, c3, b3, o3, rfl, hO⟩, hb⟩ := hh
  have hv : Rg.Vw w' ao3 n3 c3 b3 o3 (spreadG L N out []) := hO.v
  rw [none_spread] at hv
  have hn : n3 = 0 := (Rg.vw_len hv).symm
  subst hn
  exact ⟨ao3, c3, rfl, hb⟩
theorem right_few {L : List Nv} {out : Int} {n : Nat} (hl : L.length = n) (h : rightG L out = true) : Few n L ∧ ∀ v, v ∈ L → Pr v.op (nth v.p) := by
  unfold rightG at h
  rw [Bool.and_eq_true, decide_eq_true_eq] at h
  exact ⟨(few_of hl h.1 (by decide)).2.1, pr_all h.2⟩
end Go.Proofs.YteiihgoobhlkbaaDoor
