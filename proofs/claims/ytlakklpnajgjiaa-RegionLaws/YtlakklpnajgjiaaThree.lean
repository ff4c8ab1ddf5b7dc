/- Three answers in memory of their own; one of them written. -/
import Derived.Test.YtlakklpnajgjiaaMove
namespace Go.Proofs.Ytlakklpnajgjiaa
open Num Go.RowKit
set_option linter.unusedVariables false
set_option linter.unusedSimpArgs false

theorem reg_nil : Reg [] := by
  have h := (reg_sets fits_or (a := []) (b := []) (fun x hx => by cases hx) (fun x hx => by cases hx)).1
  rwa [show setsL orF [] [] = [] by decide] at h

/-- a slice of one's own, whatever lies in it -/
def Own (B : Nat) (w : World) (ao : Option Addr) (n c b off : Nat) : Prop := ∃ l, Ow B w ao n c b off l
theorem Own.block {B : Nat} {W w : World} {ao : Option Addr} {n c b off : Nat} (h : Own B W ao n c b off) (hz : W.heap.size ≤ w.heap.size) (hb : 0 < c → w.heap[b]? = W.heap[b]?) : Own B w ao n c b off :=
  h.imp fun _ h => h.block hz hb
structure Three (V w : World) (jo : Option Addr) (jn jc jb joff : Nat) (co : Option Addr) (cn cc cb coff : Nat) (mo : Option Addr) (mn mc mb moff : Nat) : Prop where
  below : Below V.heap.size V w
  oj : Own V.heap.size w jo jn jc jb joff
  oc : Own V.heap.size w co cn cc cb coff
  om : Own V.heap.size w mo mn mc mb moff
  njc : 0 < jc → 0 < cc → cb ≠ jb
  njm : 0 < jc → 0 < mc → mb ≠ jb
  ncm : 0 < cc → 0 < mc → mb ≠ cb
theorem Three.turn {V w : World} {jo : Option Addr} {jn jc jb joff : Nat} {co : Option Addr} {cn cc cb coff : Nat} {mo : Option Addr} {mn mc mb moff : Nat} (h : Three V w jo jn jc jb joff co cn cc cb coff mo mn mc mb moff) : Three V w co cn cc cb coff mo mn mc mb moff jo jn jc jb joff :=
  ⟨h.below, h.oc, h.om, h.oj, h.ncm, fun a b e => h.njc b a e.symm, fun a b e => h.njm b a e.symm⟩
theorem heap_set4 (w : World) (g p q r s k : Nat) (u0 u1 u2 u3 : Value) (hk : k ≠ g) : ((((w.setCell ⟨g, p, none⟩ u0).setCell ⟨g, q, none⟩ u1).setCell ⟨g, r, none⟩ u2).setCell ⟨g, s, none⟩ u3).heap[k]? = w.heap[k]? := by
  rw [Below.heap_setCell _ _ _ _ hk, Below.heap_setCell _ _ _ _ hk, Below.heap_setCell _ _ _ _ hk, Below.heap_setCell _ _ _ _ hk]
theorem Three.four {V w : World} {jo : Option Addr} {jn jc jb joff : Nat} {co : Option Addr} {cn cc cb coff : Nat} {mo : Option Addr} {mn mc mb moff : Nat} (h : Three V w jo jn jc jb joff co cn cc cb coff mo mn mc mb moff) {k : Nat} (hk : k < jn) :
    jo = some ⟨jb, joff, none⟩ ∧ ∃ r : R, w.cell? ⟨jb, joff + k * 4, none⟩ = some (.int .i64 r.x0) ∧ w.cell? ⟨jb, joff + k * 4 + 1, none⟩ = some (.int .i64 r.y0) ∧ w.cell? ⟨jb, joff + k * 4 + 2, none⟩ = some (.int .i64 r.x1) ∧ w.cell? ⟨jb, joff + k * 4 + 3, none⟩ = some (.int .i64 r.y1) ∧
      w.frozen? ⟨jb, joff + k * 4, none⟩ = false ∧ w.frozen? ⟨jb, joff + k * 4 + 1, none⟩ = false ∧ w.frozen? ⟨jb, joff + k * 4 + 2, none⟩ = false ∧ w.frozen? ⟨jb, joff + k * 4 + 3, none⟩ = false := by
  obtain ⟨l, hl⟩ := h.oj
  obtain ⟨e, -, -, r, hr⟩ := ow_four hl (j := k) (by rw [vw_len hl.v]; exact hk)
  exact ⟨e, r, hr⟩
theorem Three.set {V w : World} {jo : Option Addr} {jn jc jb joff : Nat} {co : Option Addr} {cn cc cb coff : Nat} {mo : Option Addr} {mn mc mb moff : Nat} (h : Three V w jo jn jc jb joff co cn cc cb coff mo mn mc mb moff) {k : Nat} (hk : k < jn) (s : R) :
    Three V ((((w.setCell ⟨jb, joff + k * 4, none⟩ (.int .i64 s.x0)).setCell ⟨jb, joff + k * 4 + 1, none⟩ (.int .i64 s.y0)).setCell ⟨jb, joff + k * 4 + 2, none⟩ (.int .i64 s.x1)).setCell ⟨jb, joff + k * 4 + 3, none⟩ (.int .i64 s.y1)) jo jn jc jb joff co cn cc cb coff mo mn mc mb moff := by
  obtain ⟨l, hl⟩ := h.oj
  have hkl : k < l.length := by rw [vw_len hl.v]; exact hk
  obtain ⟨-, hB, -, -⟩ := ow_four hl hkl
  have hjc : 0 < jc := by have := hl.v.le; omega
  have hs := below_set4 (Below.refl V.heap.size w) hB (joff + k * 4) (joff + k * 4 + 1) (joff + k * 4 + 2) (joff + k * 4 + 3) (.int .i64 s.x0) (.int .i64 s.y0) (.int .i64 s.x1) (.int .i64 s.y1)
  exact ⟨h.below.trans hs, ⟨_, ow_set4 hl hkl s⟩, h.oc.block hs.size fun hc => heap_set4 _ _ _ _ _ _ _ _ _ _ _ (h.njc hjc hc), h.om.block hs.size fun hc => heap_set4 _ _ _ _ _ _ _ _ _ _ _ (h.njm hjc hc), h.njc, h.njm, h.ncm⟩
theorem Three.small {V w : World} {jo : Option Addr} {jn jc jb joff : Nat} {co : Option Addr} {cn cc cb coff : Nat} {mo : Option Addr} {mn mc mb moff : Nat} (h : Three V w jo jn jc jb joff co cn cc cb coff mo mn mc mb moff) : jn ≤ 9223372036854775807 := by
  obtain ⟨l, hl⟩ := h.oj
  exact vw_small hl.v
/-- three answers, one behind the other -/
theorem three_of {V w1 w2 w3 : World} {jo : Option Addr} {jn jc jb joff : Nat} {co : Option Addr} {cn cc cb coff : Nat} {mo : Option Addr} {mn mc mb moff : Nat} {lj lc lm : List R}
    (h1 : Below V.heap.size V w1) (hj : Ow V.heap.size w1 jo jn jc jb joff lj) (h2 : Below w1.heap.size w1 w2) (hc : Ow w1.heap.size w2 co cn cc cb coff lc) (h3 : Below w2.heap.size w2 w3) (hm : Ow w2.heap.size w3 mo mn mc mb moff lm) :
    Three V w3 jo jn jc jb joff co cn cc cb coff mo mn mc mb moff := by
  have h12 := h1.trans (h2.mono h1.size)
  have h13 := h12.trans (h3.mono h12.size)
  refine ⟨h13, ⟨_, (hj.below h2).below h3⟩, ⟨_, (hc.below h3).mono h1.size⟩, ⟨_, hm.mono h12.size⟩, fun a b e => ?_, fun a b e => ?_, fun a b e => ?_⟩
  · have := (hj.new a).2; have := (hc.new b).1; omega
  · have := (hj.new a).2; have := (hm.new b).1; have := h2.size; omega
  · have := (hc.new a).2; have := (hm.new b).1; omega
end Go.Proofs.Ytlakklpnajgjiaa
