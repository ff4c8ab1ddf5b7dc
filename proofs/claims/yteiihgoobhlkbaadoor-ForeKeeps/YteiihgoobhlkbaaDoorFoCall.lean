/- Regions of one's own while calls are made: moved, grown, met and joined. -/
import Derived.Test.YteiihgoobhlkbaaDoorFoIn
import Derived.Test.YteiihgoobhlkbaaDoorFoPar
namespace Go.Proofs.YteiihgoobhlkbaaDoor
open Num Go.RowKit
open Rg.Num (Inv Pr spA allJ mvL grL oneS boxQ allR setsL orF andF Fits Sub)
set_option linter.unusedVariables false
set_option linter.unusedSimpArgs false

/-- a region in memory of one's own, above w; nothing that was there is written -/
structure Hv (w W : World) (ao : Option Addr) (n c b off : Nat) (l : List Rg.Num.R) : Prop where
  own : Rg.Ow w.heap.size W ao n c b off l
  low : Below w.heap.size w W
theorem Hv.to {w W W' : World} {ao : Option Addr} {n c b off : Nat} {l : List Rg.Num.R} (h : Hv w W ao n c b off l) (hb : Below W.heap.size W W') : Hv w W' ao n c b off l := ⟨Rg.Oz.below h.own hb, via h.low hb⟩
theorem hv_nil {w W : World} (h : Below w.heap.size w W) (ao : Option Addr) : Hv w W ao 0 0 0 0 [] := ⟨Rg.oz_nil _ _ _ _, h⟩
/-- such a region is answered -/
def RetH (w W w' : World) (e : Ending) (l : List Rg.Num.R) : Prop := ∃ ao n c b off, e = .returned (.slice ao n c) ∧ Hv w w' ao n c b off l ∧ Below W.heap.size W w'
theorem retH {w W w' : World} {e : Ending} {l : List Rg.Num.R} (h : RetH w W w' e l) : ∃ ao n c b off, e = .returned (.slice ao n c) ∧ Hid (Hv w w' ao n c b off l) ∧ Hid (Below W.heap.size W w') := h
theorem retH_of {w W w' : World} {e : Ending} {l : List Rg.Num.R} (hB : Below w.heap.size w W) (h : Rg.RetO W.heap.size w' e l ∧ Below W.heap.size W w') : RetH w W w' e l := by
  obtain ⟨⟨ao, n, c, b, off, rfl, hO⟩, hb⟩ := h
  exact ⟨ao, n, c, b, off, rfl, ⟨Rg.Oz.mono hO hB.size, via hB hb⟩, hb⟩
def Fw (X Y : List Int) : Prop := X.length ≤ 100000 ∧ Y.length ≤ 100000

section
variable {w W : World} {ao : Option Addr} {n c b off : Nat} {l : List Rg.Num.R} {X Y : List Int}
theorem hv_len (hI : Inv X Y l) (hw : Fw X Y) : l.length ≤ 1000000000000 := Rg.Num.inv_len hI (by have := hw.1; omega) (by have := hw.2; omega)
theorem move_c (h : Hv w W ao n c b off l) (hI : Inv X Y l) (hw : Fw X Y) {dx dy : Int} (hx : -1048576 ≤ dx ∧ dx ≤ 1048576) (hy : -1048576 ≤ dy ∧ dy ≤ 1048576) :
    Calls Tryd.prog 35 #[.slice ao n c, .int .i64 dx, .int .i64 dy] W fun e w' => RetH w W w' e (mvL l dx dy) :=
  (Rg.move_any W ao n c b off l dx dy h.own.v (hv_len hI hw) (Rg.Num.ew_of (Rg.Num.wi_move hI.wi dx dy) (by have := hw.1; simp; omega) (by have := hw.2; simp; omega)) hI.ok (by omega) (by omega)).mono fun e w' hh => retH_of h.low hh
theorem grow_c (h : Hv w W ao n c b off l) (hI : Inv X Y l) (hw : Fw X Y) {k1 k2 : Int} (h1 : 0 ≤ k1 ∧ k1 ≤ 255) (h2 : 0 ≤ k2 ∧ k2 ≤ 255) :
    Calls Tryd.prog 36 #[.slice ao n c, .int .i64 k1, .int .i64 k2, .int .i64 k1, .int .i64 k2] W fun e w' => RetH w W w' e (grL l k1 k2) :=
  (Rg.grow_any W ao n c b off l k1 k2 k1 k2 h.own.v (hv_len hI hw) (Rg.Num.ew_of (Rg.Num.wi_grow hI.wi k1 k2 k1 k2) (by have := hw.1; simp; omega) (by have := hw.2; simp; omega)) hI.ok ⟨by omega, by omega⟩ ⟨by omega, by omega⟩ ⟨by omega, by omega⟩ ⟨by omega, by omega⟩).mono fun e w' hh => retH_of h.low hh
variable {ao' : Option Addr} {n' c' b' off' : Nat} {l' : List Rg.Num.R}
theorem join_c (h : Hv w W ao n c b off l) (hI : Inv X Y l) (hw : Fw X Y) (h' : Rg.Vw W ao' n' c' b' off' l') (hI' : Inv X Y l') :
    Calls Tryd.prog 33 #[.slice ao n c, .slice ao' n' c'] W fun e w' => RetH w W w' e (setsL orF l l') :=
  (Rg.join_any W ao n c b off l ao' n' c' b' off' l' h.own.v h' _ (Rg.Num.cf_edges Rg.Num.fits_or hI.reg hI'.reg hI.wi hI'.wi (by have := hw.1; omega) (by have := hw.2; omega))).mono fun e w' hh => retH_of h.low hh
theorem meet_c (h : Hv w W ao n c b off l) (hI : Inv X Y l) (hw : Fw X Y) (h' : Rg.Vw W ao' n' c' b' off' l') (hI' : Inv X Y l') :
    Calls Tryd.prog 37 #[.slice ao n c, .slice ao' n' c'] W fun e w' => RetH w W w' e (setsL andF l l') :=
  (Rg.meet_any W ao n c b off l ao' n' c' b' off' l' h.own.v h' _ (Rg.Num.cf_edges Rg.Num.fits_and hI.reg hI'.reg hI.wi hI'.wi (by have := hw.1; omega) (by have := hw.2; omega))).mono fun e w' hh => retH_of h.low hh
/-- the region of one rectangle that was just laid -/
theorem one_c (hB : Below w.heap.size w W) {r : Rg.Num.R} (hr : Rg.Num.Ok r) :
    Calls Tryd.prog 38 #[.slice (some ⟨W.heap.size, 0, none⟩) 1 1] (W.alloc (.cells #[.int .i64 r.x0, .int .i64 r.y0, .int .i64 r.x1, .int .i64 r.y1] 34)) fun e w' => RetH w W w' e (oneS r) := by
  have hb : Below W.heap.size W (W.alloc (.cells #[.int .i64 r.x0, .int .i64 r.y0, .int .i64 r.x1, .int .i64 r.y1] 34)) := (Below.refl _ _).alloc (Nat.le_refl _) _
  refine (Rg.of_any 2 [r] _ 1 1 _ 0 _ (Rg.new1 W r.x0 r.y0 r.x1 r.y1) (by simp) (Rg.Num.ew_small (by simp)) (Rg.Num.ok_one hr)).mono fun e w' hh => ?_
  obtain ⟨⟨ao, n, c, b, off, rfl, hO⟩, hb2⟩ := hh
  exact ⟨ao, n, c, b, off, rfl, ⟨Rg.Oz.mono hO (Nat.le_trans hB.size hb.size), via hB (via hb hb2)⟩, via hb hb2⟩
end
end Go.Proofs.YteiihgoobhlkbaaDoor
